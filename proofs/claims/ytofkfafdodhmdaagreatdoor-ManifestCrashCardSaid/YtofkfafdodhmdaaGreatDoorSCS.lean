/- The document's Next at any bytes. Conditions: the slice holds its bytes, a million at most. -/
import Derived.Test.YtofkfafdodhmdaaGreatDoorSCR
import Derived.Deep.RegionHeld3
namespace Go.Proofs.YtofkfafdodhmdaaGreatDoor
open Go.RowKit

def RxEnd (w : World) : Nx → Ending → World → Prop
  | .whole x r, e, w' => ∃ v1 v2, e = .returned (.tuple #[v1, v2, .int .i64 0]) ∧ Row w' w.heap.size v1 x ∧ Row w' w.heap.size v2 r ∧ Below w.heap.size w w'
  | .torn, e, w' => e = .returned (.tuple #[.slice none 0 0, .slice none 0 0, .int .i64 1]) ∧ Below w.heap.size w w'
  | .bad, e, w' => e = .returned (.tuple #[.slice none 0 0, .slice none 0 0, .int .i64 2]) ∧ Below w.heap.size w w'

set_option maxHeartbeats 1000000 in
theorem rx_open (A : Option Addr) (m c : Nat) (w : World) (HO : Calls Tryz.prog 105 #[.slice A m c] w fun e w' => e = .returned (.bool true) ∧ w' = w) :
    Calls Tryz.prog 79 #[.slice A m c] w (RxEnd w .torn) := by
  have HO := hid HO
  go_enter Tryz.func79, Tryz.ntmps79
  go_wp2_with (go_at_call 105; refine HO.out.mono ?_; rintro e w1 ⟨rfl, rfl⟩)
  refine bodyPost_ret (results_tmp3 rfl _ _ _) rfl ?_
  exact ⟨rfl, Below.refl _ _⟩

set_option maxHeartbeats 1000000 in
theorem rx_none (A : Option Addr) (m c : Nat) (w : World) (HO : Calls Tryz.prog 105 #[.slice A m c] w fun e w' => e = .returned (.bool false) ∧ w' = w)
    (HT : Calls Tryz.prog 43 #[.slice A m c] w fun e w' => e = .returned (.tuple #[.int .i64 0, .slice none 0 0, .bool false]) ∧ Below w.heap.size w w') :
    Calls Tryz.prog 79 #[.slice A m c] w (RxEnd w .bad) := by
  have HO := hid HO
  have HT := hid HT
  go_enter Tryz.func79, Tryz.ntmps79
  go_wp2_with (first | (go_at_call 105; refine HO.out.mono ?_; rintro e w1 ⟨rfl, rfl⟩) | (go_at_call 43; refine HT.out.mono ?_; rintro e w2 ⟨rfl, hb⟩))
  refine bodyPost_ret (results_tmp3 rfl _ _ _) rfl ?_
  exact ⟨rfl, hb⟩

set_option maxHeartbeats 1000000 in
/-- Too great a number, or too few bytes behind it. -/
theorem rx_less (A : Option Addr) (m c n T : Nat) (hn : n < 9223372036854775808) (q : Nx) (hq : (65536 < n ∧ q = .bad) ∨ (n ≤ 65536 ∧ T < n + 4 ∧ q = .torn)) (w : World) (HO : Calls Tryz.prog 105 #[.slice A m c] w fun e w' => e = .returned (.bool false) ∧ w' = w)
    (HT : Calls Tryz.prog 43 #[.slice A m c] w fun e w' => ∃ A2 c2, e = .returned (.tuple #[.int .i64 (n : Int), .slice A2 T c2, .bool true]) ∧ Below w.heap.size w w') :
    Calls Tryz.prog 79 #[.slice A m c] w (RxEnd w q) := by
  have HO := hid HO
  obtain ⟨N, hN⟩ : ∃ N : Int, (n : Int) = N := ⟨_, rfl⟩
  rw [hN] at HT
  have HT := hid HT
  have n0 : 0 ≤ N := by omega
  rcases hq with ⟨h1, rfl⟩ | ⟨h1, h2, rfl⟩
  · have h3 : 65536 < N := by omega
    clear hN h1 hn
    go_enter Tryz.func79, Tryz.ntmps79
    go_wp2_with (first | (go_at_call 105; refine HO.out.mono ?_; rintro e w1 ⟨rfl, rfl⟩) | (go_at_call 43; refine HT.out.mono ?_; rintro e w2 ⟨A2, c2, rfl, hb⟩))
    refine bodyPost_ret (results_tmp3 rfl _ _ _) rfl ?_
    exact ⟨rfl, hb⟩
  · have h3 : N ≤ 65536 := by omega
    have h4 : (T : Int) < N + 4 := by omega
    clear hN h1 hn h2
    go_enter Tryz.func79, Tryz.ntmps79
    go_wp2_with (first | (go_at_call 105; refine HO.out.mono ?_; rintro e w1 ⟨rfl, rfl⟩) | (go_at_call 43; refine HT.out.mono ?_; rintro e w2 ⟨A2, c2, rfl, hb⟩))
    refine bodyPost_ret (results_tmp3 rfl _ _ _) rfl ?_
    exact ⟨rfl, hb⟩

/-- What Next walks by behind Take. -/
structure RxHyp (w : World) (g n T cap : Nat) (s : Int) (d : Bool) (x r sl : List UInt8) : Prop where
  sum : ∀ W, Below w.heap.size w W → Calls Tryz.prog 73 #[.slice (some ⟨g, 0, none⟩) n cap] W fun e w' => e = .returned (.int .i64 s) ∧ w' = W
  four : ∀ W, Calls Tryz.prog 72 #[.int .i64 s] W fun e w' => ∃ v, e = .returned v ∧ Hid (SlA w' v sl) ∧ Below W.heap.size W w'
  same : ∀ W v, Below w.heap.size w W → SlA W v sl → Calls Tryz.prog 17 #[v, .slice (some ⟨g, n, none⟩) 4 (cap - n)] W fun e w' => e = .returned (.bool d) ∧ Below W.heap.size W w'
  c1 : ∀ W, Below w.heap.size w W → Calls Tryz.prog 68 #[.slice (some ⟨g, 0, none⟩) n cap] W fun e w' => ∃ v', e = .returned v' ∧ Hid (Row w' w.heap.size v' x) ∧ Below W.heap.size W w'
  c2 : n + 4 < cap → ∀ W, Below w.heap.size w W → Calls Tryz.prog 68 #[.slice (some ⟨g, n + 4, none⟩) (T - (n + 4)) (cap - (n + 4))] W fun e w' => ∃ v', e = .returned v' ∧ Hid (Row w' w.heap.size v' r) ∧ Below W.heap.size W w'
  c3 : cap ≤ n + 4 → ∀ W, Below w.heap.size w W → Calls Tryz.prog 68 #[.slice (some ⟨g, 0, none⟩) 0 0] W fun e w' => ∃ v', e = .returned v' ∧ Hid (Row w' w.heap.size v' r) ∧ Below W.heap.size W w'

set_option maxRecDepth 100000 in
set_option maxHeartbeats 8000000 in
theorem rx_full (A : Option Addr) (m c n T : Nat) (hn : n ≤ 65536) (hT : n + 4 ≤ T) (s : Int) (d : Bool) (x r sl : List UInt8) (q : Nx) (hq : Hid (q = if d then .whole x r else .bad)) (w : World) (HO : Calls Tryz.prog 105 #[.slice A m c] w fun e w' => e = .returned (.bool false) ∧ w' = w)
    (HT : Calls Tryz.prog 43 #[.slice A m c] w fun e w' => ∃ g cap, e = .returned (.tuple #[.int .i64 (n : Int), .slice (some ⟨g, 0, none⟩) T cap, .bool true]) ∧ (T ≤ cap ∧ cap ≤ 9223372036854775807) ∧ Below w.heap.size w w' ∧ Hid (RxHyp w' g n T cap s d x r sl)) :
    Calls Tryz.prog 79 #[.slice A m c] w (RxEnd w q) := by
  have HO := hid HO
  have HT := hid HT
  have p1 : (0 : Int) ≤ (n : Int) := by omega
  have p2 : (n : Int) ≤ (n : Int) + 4 := by omega
  go_enter Tryz.func79, Tryz.ntmps79
  go_wp2_with (first | (go_at_call 105; refine HO.out.mono ?_; rintro e w1 ⟨rfl, rfl⟩) | (go_at_call 43; refine HT.out.mono ?_; rintro e w2 ⟨g, cap, rfl, ⟨hTc, hcm⟩, hb, HX⟩))
  have hHeld : Hid (Below w2.heap.size w2 w2) := Below.refl _ _
  have E1 : Hid (((n : Int) + 4).toNat - n = 4) := by unfold Hid; omega
  have E2 : Hid (((n : Int) + 4).toNat = n + 4) := by unfold Hid; omega
  have p3 : (n : Int) + 4 ≤ (cap : Int) := by omega
  have p4 : (n : Int) ≤ (cap : Int) := by omega
  have p5 : (0 : Int) ≤ (n : Int) + 4 := by omega
  have q1 : IntKind.i64.wrap ((n : Int) + 4) = (n : Int) + 4 := by rw [IntKind.wrap_i64]; omega
  go_region_held3 (fun w' => Hid (Below w2.heap.size w2 w'))
    (first | assumption | exact hid (Below.drew (Hid.out (by assumption))) | exact hid (Below.trans (Hid.out (by assumption)) (hbo.mono (Below.size (Hid.out (by assumption))))))
    (first
      | (go_at_call 73; ((with_reducible refine (HX.out.sum _ ?_).mono ?_); (first | exact Hid.out (by assumption) | exact Below.drew (Hid.out (by assumption))); rintro e w5 ⟨rfl, rfl⟩))
      | (go_at_call 72; ((with_reducible refine (HX.out.four _).mono ?_); rintro e w6 ⟨v4, rfl, hS4, hbo⟩))
      | (go_at_call 17; try rw [E1.out]; ((with_reducible refine (HX.out.same _ _ ?_ ?_).mono ?_); (first | exact Hid.out (by assumption) | exact Below.drew (Hid.out (by assumption))); (first | exact hS4.out | exact SlA.below hS4.out (Below.refl _ _).drew); rintro e w7 ⟨rfl, hbo⟩)))
  rename_i hLast
  cases d with
  | false =>
    go_wp2
    refine bodyPost_ret (results_tmp3 rfl _ _ _) rfl ?_
    rw [hq.out]
    exact ⟨rfl, hb.trans (hLast.out.mono hb.size)⟩
  | true =>
    clear hbo
    go_wp2
    by_cases hc : n + 4 < cap
    · have HC2 := hid (HX.out.c2 hc)
      go_region_held3 (fun w' => Hid (Below w2.heap.size w2 w'))
        (first | assumption | exact hid (Below.drew (Hid.out (by assumption))) | exact hid (Below.trans (Hid.out (by assumption)) (hbo.mono (Below.size (Hid.out (by assumption))))))
        (first
          | (go_at_call 68; ((with_reducible refine (HX.out.c1 _ ?_).mono ?_); (first | exact Hid.out (by assumption) | exact Below.drew (Hid.out (by assumption))); rintro e w8 ⟨v1, rfl, hR1, hbo⟩))
          | (go_at_call 68; try rw [E2.out]; ((with_reducible refine (HC2.out _ ?_).mono ?_); (first | exact Hid.out (by assumption) | exact Below.drew (Hid.out (by assumption))); rintro e w9 ⟨v2, rfl, hR2, hbo⟩)))
      rename_i hLast2
      go_wp2
      refine bodyPost_ret (results_tmp3 rfl _ _ _) rfl ?_
      have e : q = .whole x r := by rw [hq.out]; simp
      rw [e]
      exact ⟨v1, v2, rfl, (hR1.out.keep hbo hR1.out.block_lt).le hb.size, hR2.out.le hb.size, hb.trans (hLast2.out.mono hb.size)⟩
    · have hcA : cap ≤ n + 4 := by omega
      have hTA : T ≤ n + 4 := by omega
      have HC2 := hid (HX.out.c3 hcA)
      go_region_held3 (fun w' => Hid (Below w2.heap.size w2 w'))
        (first | assumption | exact hid (Below.drew (Hid.out (by assumption))) | exact hid (Below.trans (Hid.out (by assumption)) (hbo.mono (Below.size (Hid.out (by assumption))))))
        (first
          | (go_at_call 68; ((with_reducible refine (HX.out.c1 _ ?_).mono ?_); (first | exact Hid.out (by assumption) | exact Below.drew (Hid.out (by assumption))); rintro e w8 ⟨v1, rfl, hR1, hbo⟩))
          | (go_at_call 68; try rw [E2.out]; try rw [show T - (n + 4) = 0 by omega]; ((with_reducible refine (HC2.out _ ?_).mono ?_); (first | exact Hid.out (by assumption) | exact Below.drew (Hid.out (by assumption))); rintro e w9 ⟨v2, rfl, hR2, hbo⟩)))
      rename_i hLast2
      go_wp2
      refine bodyPost_ret (results_tmp3 rfl _ _ _) rfl ?_
      have e : q = .whole x r := by rw [hq.out]; simp
      rw [e]
      exact ⟨v1, v2, rfl, (hR1.out.keep hbo hR1.out.block_lt).le hb.size, hR2.out.le hb.size, hb.trans (hLast2.out.mono hb.size)⟩

theorem refNext_any (v : Value) (l : List UInt8) (hlen : l.length ≤ 1000000) (w : World) (h : SlA w v l) :
    Calls Tryz.prog 79 #[v] w (RxEnd w (nextM l)) := by
  have HO := open_any v l hlen w h
  have HT := refTake_any v l hlen w h
  obtain ⟨A, c, rfl, h2, h3, h4, h5⟩ := h
  unfold nextM
  by_cases ho : openB l = true
  · rw [if_pos ho]
    rw [ho] at HO
    exact rx_open _ _ _ w HO
  · rw [if_neg ho]
    have ho' : openB l = false := by simpa using ho
    rw [ho'] at HO
    cases hk : tk l with
    | none =>
      rw [hk] at HT
      exact rx_none _ _ _ w HO HT
    | some p =>
      obtain ⟨n, t⟩ := p
      rw [hk] at HT
      obtain ⟨k, k1, k2, k3, ht, hn⟩ := tkGo_rest 9 0 l n t hk
      have hn63 : n < 9223372036854775808 := Nat.lt_of_lt_of_le hn (Nat.pow_le_pow_right (by decide) k2 : 128 ^ k ≤ 128 ^ 9)
      have htl : t.length ≤ 1000000 := by rw [ht, List.length_drop]; omega
      have HL : Calls Tryz.prog 43 #[.slice A l.length c] w fun e w' => ∃ A2 c2, e = .returned (.tuple #[.int .i64 (n : Int), .slice A2 t.length c2, .bool true]) ∧ Below w.heap.size w w' := by
        refine HT.mono ?_
        rintro e w' ⟨v, rfl, hR, hb⟩
        obtain ⟨A2, c2, rfl, _⟩ := hR.sla
        exact ⟨A2, c2, rfl, hb⟩
      simp only
      by_cases hg : 65536 < n
      · rw [if_pos hg]
        exact rx_less _ _ _ n t.length hn63 _ (.inl ⟨hg, rfl⟩) w HO HL
      · rw [if_neg hg]
        by_cases hs : t.length < n + 4
        · rw [if_pos hs]
          exact rx_less _ _ _ n t.length hn63 _ (.inr ⟨by omega, hs, rfl⟩) w HO HL
        · rw [if_neg hs]
          have hx : (t.take n).length = n := by rw [List.length_take]; omega
          refine rx_full A l.length c n t.length (by omega) (by omega) ((sumN (t.take n) : Nat) : Int) (decide (byW 4 (sumN (t.take n)) = (t.drop n).take 4)) (t.take n) (t.drop (n + 4)) (byW 4 (sumN (t.take n))) _ ?_ w HO (HT.mono ?_)
          · unfold Hid
            by_cases hd : byW 4 (sumN (t.take n)) = (t.drop n).take 4
            · rw [if_pos hd, decide_eq_true hd, if_pos rfl]
            · rw [if_neg hd, decide_eq_false hd]; rfl
          · rintro e w' ⟨v, rfl, hR, hb⟩
            have hR : Row w' w.heap.size v t := hR
            obtain ⟨g, cap, rfl, _, _, h6, h7⟩ := hR.form (by omega)
            have hh : Holds w' g 0 t := fun i hi => by rw [Nat.zero_add]; exact h7 i hi
            obtain ⟨A', c', e', _, h8, _⟩ := hR.sla
            injection e' with _ _ e3
            have hcm : cap ≤ 9223372036854775807 := by rw [e3]; exact h8
            have q1 := sla_part h6 hcm hh 0 n (by omega)
            have q2 := sla_part h6 hcm hh n 4 (by omega)
            have q3 := sla_part h6 hcm hh (n + 4) (t.length - (n + 4)) (by omega)
            simp only [Nat.zero_add, Nat.sub_zero, List.drop_zero] at q1 q2 q3
            have er : (t.drop (n + 4)).take (t.length - (n + 4)) = t.drop (n + 4) := List.take_of_length_le (by rw [List.length_drop]; omega)
            rw [er] at q3
            refine ⟨g, cap, rfl, ⟨h6, hcm⟩, hb, ⟨?_, ?_, ?_, ?_, ?_, ?_⟩⟩
            · exact fun W hW => refSum_any _ (t.take n) (by omega) W (q1.below hW)
            · exact fun W => (four_any _ (sumN_lt _) W).mono fun e w2 ⟨v', he, hR', hb'⟩ => ⟨v', he, hR'.sla, hb'⟩
            · exact fun W v' hW hv => same_sla v' _ _ _ (by rw [byW_len]; omega) W hv (q2.below hW)
            · exact fun W hW => (copy_any _ (t.take n) (by omega) W (q1.below hW)).mono fun e w2 ⟨v', he, hR', hb'⟩ => ⟨v', he, hR'.le hW.size, hb'⟩
            · exact fun _ W hW => (copy_any _ (t.drop (n + 4)) (by rw [List.length_drop]; omega) W (q3.below hW)).mono fun e w2 ⟨v', he, hR', hb'⟩ => ⟨v', he, hR'.le hW.size, hb'⟩
            · intro hc W hW
              have e0 : t.drop (n + 4) = [] := List.drop_eq_nil_of_le (by omega)
              rw [e0]
              exact (copy_any _ [] (by simp) W ⟨_, 0, rfl, by simp, by omega, fun h => absurd h (by simp), fun h => by cases h⟩).mono fun e w2 ⟨v', he, hR', hb'⟩ => ⟨v', he, hR'.le hW.size, hb'⟩
end Go.Proofs.YtofkfafdodhmdaaGreatDoor
