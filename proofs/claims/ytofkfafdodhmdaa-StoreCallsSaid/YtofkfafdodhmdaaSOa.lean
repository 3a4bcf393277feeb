/- SameBytes at any two slices: are their bytes the same. Conditions: the slices hold their bytes. -/
import Derived.Test.YtofkfafdodhmdaaSLd
import Derived.Deep.RegionHeld3
namespace Go.Proofs.Ytofkfafdodhmdaa
open Go.RowKit

set_option maxHeartbeats 1000000 in
theorem same_ne (A1 A2 : Option Addr) (n1 n2 c1 c2 : Nat) (hn : n1 ≠ n2) (w : World) :
    Calls Try.prog 18 #[.slice A1 n1 c1, .slice A2 n2 c2] w fun e w' => e = .returned (.bool false) ∧ w' = w := by
  have h : ¬ ((n1 : Int) = (n2 : Int)) := by omega
  go_enter Try.func18, Try.ntmps18
  go_wp2
  go_ret
  exact ⟨rfl, rfl⟩

set_option maxHeartbeats 1000000 in
theorem same_zero (A1 A2 : Option Addr) (c1 c2 : Nat) (w : World) :
    Calls Try.prog 18 #[.slice A1 0 c1, .slice A2 0 c2] w fun e w' => e = .returned (.bool true) ∧ w' = w := by
  go_enter Try.func18, Try.ntmps18
  go_wp2
  go_loopw [5] (fun vi wr => vi = .int .i64 0 ∧ w = wr) (fun _ _ => 0)
  case atStart => exact ⟨rfl, rfl⟩
  case round =>
    obtain ⟨rfl, rfl⟩ := hrel
    go_wp2
    go_ret
    exact ⟨rfl, rfl⟩

theorem take_next (l : List UInt8) (k : Nat) (h : k < l.length) : l.take (k + 1) = l.take k ++ [l[k]] := List.take_succ_eq_append_getElem h

set_option maxHeartbeats 2000000 in
theorem same_in (b1 o1 c1 b2 o2 c2 n : Nat) (l1 l2 : List UInt8) (h1 : l1.length = n) (h2 : l2.length = n) (hn : n ≤ 1000000) (w : World) (hh1 : Holds w b1 o1 l1) (hh2 : Holds w b2 o2 l2) :
    Calls Try.prog 18 #[.slice (some ⟨b1, o1, none⟩) n c1, .slice (some ⟨b2, o2, none⟩) n c2] w fun e w' => e = .returned (.bool (decide (l1 = l2))) ∧ Below w.heap.size w w' := by
  have H1 := hid h1
  have H2 := hid h2
  have K1 := hid hh1
  have K2 := hid hh2
  clear h1 h2 hh1 hh2
  go_enter Try.func18, Try.ntmps18
  go_wp2
  go_loopw [5] (fun vi wr => ∃ k m : Nat, k ≤ n ∧ vi = .int .i64 k ∧ Hid (l1.take k = l2.take k) ∧ wr = w.drewN m) (fun vi _ => n - (intOf vi).toNat)
  case atStart => exact ⟨0, 0, by omega, rfl, rfl, rfl⟩
  case round =>
    obtain ⟨k, m, hk, rfl, HE, rfl⟩ := hrel
    by_cases hlt : k < n
    · have g1 : k < l1.length := by rw [H1.out]; exact hlt
      have g2 : k < l2.length := by rw [H2.out]; exact hlt
      have q1 := K1.out k g1
      have q2 := K2.out k g2
      rw [List.getD_eq_getElem?_getD, List.getElem?_eq_getElem g1, Option.getD_some] at q1
      rw [List.getD_eq_getElem?_getD, List.getElem?_eq_getElem g2, Option.getD_some] at q2
      obtain ⟨x, hx⟩ : ∃ x : Int, (((l1[k]).toNat : Nat) : Int) = x := ⟨_, rfl⟩
      obtain ⟨y, hy⟩ : ∃ y : Int, (((l2[k]).toNat : Nat) : Int) = y := ⟨_, rfl⟩
      rw [hx] at q1; rw [hy] at q2
      have HX := hid hx; have HY := hid hy
      clear hx hy
      by_cases hxy : x = y
      · subst hxy
        have hb : (x != x) = false := by simp
        go_wp2
        go_region
        all_goals
          go_wp2
          go_roundw
          case rel =>
            refine ⟨k + 1, _, by omega, by go_num, ?_, rfl⟩
            unfold Hid
            rw [take_next l1 k g1, take_next l2 k g2, HE.out]
            have : l1[k] = l2[k] := UInt8.toNat_inj.1 (by have := HX.out; have := HY.out; omega)
            rw [this]
          case measure => simp [intOf]; omega
      · have hb : (x != y) = true := by simpa using hxy
        have HN := hid hxy
        go_wp2
        go_region
        all_goals
          go_wp2
          go_ret
          have hne : l1 ≠ l2 := by
            intro e
            subst e
            exact HN.out (HX.out.symm.trans HY.out)
          rw [decide_eq_false hne]
          exact ⟨rfl, by repeat' (first | exact Below.refl _ _ | apply Below.drew | apply below_drewN)⟩
    · go_wp2
      go_ret
      have e : l1 = l2 := by
        have := HE.out
        rwa [List.take_of_length_le (by have := H1.out; omega), List.take_of_length_le (by have := H2.out; omega)] at this
      rw [decide_eq_true e]
      exact ⟨rfl, by repeat' (first | exact Below.refl _ _ | apply Below.drew | apply below_drewN)⟩

theorem same_sla (v1 v2 : Value) (l1 l2 : List UInt8) (hl1 : l1.length ≤ 1000000) (w : World) (h1 : SlA w v1 l1) (h2 : SlA w v2 l2) :
    Calls Try.prog 18 #[v1, v2] w fun e w' => e = .returned (.bool (decide (l1 = l2))) ∧ Below w.heap.size w w' := by
  obtain ⟨A1, c1, rfl, _, _, g1, _⟩ := h1
  obtain ⟨A2, c2, rfl, _, _, g2, _⟩ := h2
  by_cases hn : l1.length = l2.length
  · by_cases h0 : 0 < l1.length
    · obtain ⟨b1, o1, rfl, k1⟩ := g1 h0
      obtain ⟨b2, o2, rfl, k2⟩ := g2 (by omega)
      rw [← hn]
      exact same_in b1 o1 c1 b2 o2 c2 l1.length l1 l2 rfl hn.symm hl1 w k1 k2
    · have e1 : l1 = [] := List.eq_nil_of_length_eq_zero (by omega)
      have e2 : l2 = [] := List.eq_nil_of_length_eq_zero (by omega)
      subst e1; subst e2
      exact (same_zero A1 A2 c1 c2 w).mono fun e w' ⟨he, hw⟩ => ⟨he, by rw [hw]; exact Below.refl _ _⟩
  · have hne : l1 ≠ l2 := fun e => hn (by rw [e])
    rw [decide_eq_false hne]
    exact (same_ne A1 A2 _ _ c1 c2 hn w).mono fun e w' ⟨he, hw⟩ => ⟨he, by rw [hw]; exact Below.refl _ _⟩
end Go.Proofs.Ytofkfafdodhmdaa
