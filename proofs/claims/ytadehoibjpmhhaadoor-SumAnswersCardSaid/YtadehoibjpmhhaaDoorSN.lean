/- sum.Next at any bytes. Conditions: the slice holds its bytes, a million at most. -/
import Derived.Test.YtadehoibjpmhhaaDoorSM
namespace Go.Proofs.YtadehoibjpmhhaaDoor
open Go.RowKit

theorem clone_sla (v : Value) (l : List UInt8) (hl : l.length ≤ 1000000) (w : World) (h : SlA w v l) :
    Calls Tryd.prog 71 #[v] w fun e w' => ∃ v', e = .returned v' ∧ Row w' w.heap.size v' l ∧ Below w.heap.size w w' := by
  obtain ⟨A, c, rfl, _, _, h4, _⟩ := h
  exact clone_any A c l hl w h4

def NxEnd (w : World) : Nx → Ending → World → Prop
  | .whole x r, e, w' => ∃ v1 v2, e = .returned (.tuple #[v1, v2, .int .i64 0]) ∧ SlA w' v1 x ∧ SlA w' v2 r ∧ Below w.heap.size w w'
  | .torn, e, w' => e = .returned (.tuple #[.slice none 0 0, .slice none 0 0, .int .i64 1]) ∧ Below w.heap.size w w'
  | .bad, e, w' => e = .returned (.tuple #[.slice none 0 0, .slice none 0 0, .int .i64 2]) ∧ Below w.heap.size w w'

set_option maxHeartbeats 1000000 in
theorem next_not (v : Value) (k : Int) (hk : k = 1 ∨ k = 2) (w : World) (HL : Calls Tryd.prog 80 #[v] w fun e w' => e = .returned (.tuple #[.slice none 0 0, .int .i64 0, .int .i64 k]) ∧ Below w.heap.size w w') :
    Calls Tryd.prog 40 #[v] w fun e w' => e = .returned (.tuple #[.slice none 0 0, .slice none 0 0, .int .i64 k]) ∧ Below w.heap.size w w' := by
  have HL := hid HL
  rcases hk with rfl | rfl
  all_goals
    go_enter Tryd.func40, Tryd.ntmps40
    go_wp2_with (go_at_call 80; refine HL.out.mono ?_; rintro e w1 ⟨rfl, hb⟩)
    refine bodyPost_ret (results_tmp3 rfl _ _ _) rfl ?_
    exact ⟨rfl, hb⟩

/-- What Next walks by: the body's and the rest's copies. -/
structure NextHyp (w : World) (A' : Option Addr) (xl c' : Nat) (x : List UInt8) (v2 : Value) (r : List UInt8) : Prop where
  c1 : ∀ W, SlA W (.slice A' xl c') x → Calls Tryd.prog 71 #[.slice A' xl c'] W fun e w' => ∃ v', e = .returned v' ∧ Hid (SlA w' v' x) ∧ Below W.heap.size W w'
  c2 : ∀ W, Below w.heap.size w W → Calls Tryd.prog 71 #[v2] W fun e w' => ∃ v', e = .returned v' ∧ Hid (SlA w' v' r) ∧ Below W.heap.size W w'

set_option maxRecDepth 100000 in
set_option maxHeartbeats 4000000 in
theorem next_in (b off m c s : Nat) (hsm : s ≤ m) (_hmc : m ≤ c) (hsc : s < c) (_hc : c ≤ 9223372036854775807) (x r : List UInt8) (w : World)
    (HL : Calls Tryd.prog 80 #[.slice (some ⟨b, off, none⟩) m c] w fun e w' => ∃ A' xl c', e = .returned (.tuple #[.slice A' xl c', .int .i64 (s : Int), .int .i64 0]) ∧ Hid (SlA w' (.slice A' xl c') x) ∧ Below w.heap.size w w' ∧ Hid (NextHyp w A' xl c' x (.slice (some ⟨b, off + s, none⟩) (m - s) (c - s)) r)) :
    Calls Tryd.prog 40 #[.slice (some ⟨b, off, none⟩) m c] w (NxEnd w (.whole x r)) := by
  have HL := hid HL
  have p1 : (0 : Int) ≤ (s : Int) := by omega
  have p2 : (s : Int) ≤ (m : Int) := by omega
  go_enter Tryd.func40, Tryd.ntmps40
  go_wp2_with (go_at_call 80; refine HL.out.mono ?_; rintro e w1 ⟨A', xl, c', rfl, hS0, hb, HN⟩)
  have hHeld := hid hb
  go_region_held3 (fun w' => Hid (Below w.heap.size w w'))
    (first | assumption | exact hid (Below.drew (Hid.out (by assumption))) | exact hid (Below.trans (Hid.out (by assumption)) (hbo.mono (Below.size (Hid.out (by assumption))))))
    (first
      | (go_at_call 71; ((with_reducible refine (HN.out.c1 _ ?_).mono ?_); (first | exact hS0.out | exact SlA.below hS0.out (Below.refl _ _).drew); rintro e w5 ⟨v1, rfl, hS1, hbo⟩))
      | (go_at_call 71; ((with_reducible refine (HN.out.c2 _ ?_).mono ?_); (first | exact Hid.out (by assumption) | exact Below.drew (Hid.out (by assumption))); rintro e w6 ⟨v2, rfl, hS2, hbo⟩)))
  rename_i hLast
  go_wp2
  refine bodyPost_ret (results_tmp3 rfl _ _ _) rfl ?_
  exact ⟨v1, v2, rfl, hS1.out.below hbo, hS2.out, hLast.out⟩

set_option maxRecDepth 100000 in
set_option maxHeartbeats 4000000 in
theorem next_in_all (b off s : Nat) (hc : s ≤ 9223372036854775807) (x r : List UInt8) (w : World)
    (HL : Calls Tryd.prog 80 #[.slice (some ⟨b, off, none⟩) s s] w fun e w' => ∃ A' xl c', e = .returned (.tuple #[.slice A' xl c', .int .i64 (s : Int), .int .i64 0]) ∧ Hid (SlA w' (.slice A' xl c') x) ∧ Below w.heap.size w w' ∧ Hid (NextHyp w A' xl c' x (.slice (some ⟨b, off, none⟩) 0 0) r)) :
    Calls Tryd.prog 40 #[.slice (some ⟨b, off, none⟩) s s] w (NxEnd w (.whole x r)) := by
  have HL := hid HL
  have p1 : (0 : Int) ≤ (s : Int) := by omega
  go_enter Tryd.func40, Tryd.ntmps40
  go_wp2_with (go_at_call 80; refine HL.out.mono ?_; rintro e w1 ⟨A', xl, c', rfl, hS0, hb, HN⟩)
  have hHeld := hid hb
  go_region_held3 (fun w' => Hid (Below w.heap.size w w'))
    (first | assumption | exact hid (Below.drew (Hid.out (by assumption))) | exact hid (Below.trans (Hid.out (by assumption)) (hbo.mono (Below.size (Hid.out (by assumption))))))
    (first
      | (go_at_call 71; ((with_reducible refine (HN.out.c1 _ ?_).mono ?_); (first | exact hS0.out | exact SlA.below hS0.out (Below.refl _ _).drew); rintro e w5 ⟨v1, rfl, hS1, hbo⟩))
      | (go_at_call 71; ((with_reducible refine (HN.out.c2 _ ?_).mono ?_); (first | exact Hid.out (by assumption) | exact Below.drew (Hid.out (by assumption))); rintro e w6 ⟨v2, rfl, hS2, hbo⟩)))
  rename_i hLast
  go_wp2
  refine bodyPost_ret (results_tmp3 rfl _ _ _) rfl ?_
  exact ⟨v1, v2, rfl, hS1.out.below hbo, hS2.out, hLast.out⟩

theorem next_any (v : Value) (l : List UInt8) (hlen : l.length ≤ 1000000) (w : World) (h : SlA w v l) :
    Calls Tryd.prog 40 #[v] w (NxEnd w (nextM l)) := by
  have HL := look_any v l hlen w h
  cases hn : nextM l with
  | torn => rw [hn] at HL; exact next_not v 1 (.inl rfl) w HL
  | bad => rw [hn] at HL; exact next_not v 2 (.inr rfl) w HL
  | whole x r =>
    rw [hn] at HL
    obtain ⟨k, k1, k2, k3, k4, k5, k6⟩ := next_less hn
    obtain ⟨A, c, rfl, h2, h3, h4, h5⟩ := h
    obtain ⟨b, off, rfl, hh⟩ := h4 (by omega)
    obtain ⟨s, hs⟩ : ∃ s, l.length - r.length = s := ⟨_, rfl⟩
    have hrl : r.length = l.length - (k + x.length + 4) := by rw [k4, List.length_drop]
    have hsk : s = k + x.length + 4 := by omega
    have hc1 : ∀ (A' : Option Addr) (c' : Nat) W, SlA W (.slice A' x.length c') x → Calls Tryd.prog 71 #[.slice A' x.length c'] W fun e w' => ∃ v', e = .returned v' ∧ Hid (SlA w' v' x) ∧ Below W.heap.size W w' :=
      fun A' c' W hW => (clone_sla _ x (by omega) W hW).mono fun e w' ⟨v', he, hR, hb⟩ => ⟨v', he, hR.sla, hb⟩
    by_cases hsc : s < c
    · refine next_in b off l.length c s (by omega) h2 hsc h3 x r w (HL.mono ?_)
      rintro e w' ⟨A', c', rfl, hS, hb⟩
      refine ⟨A', x.length, c', by rw [hs], hS, hb, ⟨hc1 A' c', fun W hW => ?_⟩⟩
      have q := sla_part h2 h3 hh s (l.length - s) (by omega)
      have er : (l.drop s).take (l.length - s) = r := by rw [List.take_of_length_le (by rw [List.length_drop]; omega), hsk, k4]
      rw [er] at q
      exact (clone_sla _ r (by omega) W (q.below hW)).mono fun e w' ⟨v', he, hR, hb⟩ => ⟨v', he, hR.sla, hb⟩
    · have e1 : c = s := by omega
      have e2 : l.length = s := by omega
      have e3 : r = [] := List.eq_nil_of_length_eq_zero (by omega)
      subst e3
      rw [e2] at HL
      rw [e2, e1]
      rw [e1] at HL
      refine next_in_all b off s (by omega) x [] w (HL.mono ?_)
      rintro e w' ⟨A', c', rfl, hS, hb⟩
      refine ⟨A', x.length, c', by rw [e2]; rfl, hS, hb, ⟨hc1 A' c', fun W hW => ?_⟩⟩
      exact (clone_sla _ [] (by simp) W ⟨_, 0, rfl, by simp, by omega, fun h => absurd h (by simp), fun h => by cases h⟩).mono fun e w' ⟨v', he, hR, hb⟩ => ⟨v', he, hR.sla, hb⟩
end Go.Proofs.YtadehoibjpmhhaaDoor
