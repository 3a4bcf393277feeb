/- The document's Take at any bytes. Conditions: the slice holds its bytes, a million at most. -/
import Derived.Test.YtofkfafdodhmdaaGreatDoorSCP
namespace Go.Proofs.YtofkfafdodhmdaaGreatDoor
open Go.RowKit

def TkEnd (w : World) : Option (Nat × List UInt8) → Ending → World → Prop
  | some p, e, w' => ∃ v, e = .returned (.tuple #[.int .i64 (p.1 : Int), v, .bool true]) ∧ Row w' w.heap.size v p.2 ∧ Below w.heap.size w w'
  | none, e, w' => e = .returned (.tuple #[.int .i64 0, .slice none 0 0, .bool false]) ∧ Below w.heap.size w w'

set_option maxRecDepth 100000 in
set_option maxHeartbeats 2000000 in
theorem refTake_any (v : Value) (l : List UInt8) (hl : l.length ≤ 1000000) (w : World) (h : SlA w v l) :
    Calls Tryz.prog 43 #[v] w (TkEnd w (tk l)) := by
  obtain ⟨A, c, rfl, hc1, hc2, hh, _⟩ := h
  have HH := hid hh
  obtain ⟨m, hm⟩ : ∃ m, l.length = m := ⟨_, rfl⟩
  rw [hm] at hl hc1 ⊢
  have HM := hid hm
  clear hm hh
  go_enter Tryz.func43, Tryz.ntmps43
  go_wp2
  go_loopw [5, 6, 7] (fun vn vp vi wr => ∃ (k n : Nat) (N P : Int), k ≤ m ∧ k ≤ 9 ∧ Hid (N = (n : Int) ∧ n < 2 ^ (7 * k) ∧ (k ≤ 8 → P = ((2 ^ (7 * k) : Nat) : Int))) ∧ vn = .int .i64 N ∧ vp = .int .i64 P ∧ vi = .int .i64 k ∧ Hid (tk l = (tkGo (9 - k) k (l.drop k)).map (fun p => (n + 2 ^ (7 * k) * p.1, p.2))) ∧ wr = w) (fun _ _ vi _ => 9 - (intOf vi).toNat)
  case atStart => exact ⟨0, 0, 0, 1, by omega, by omega, ⟨rfl, by decide, fun _ => rfl⟩, rfl, rfl, rfl, by unfold Hid tk; simp, rfl⟩
  case round =>
    obtain ⟨k, n, N, P, hk, hk9, HK, rfl, rfl, rfl, HT, rfl⟩ := hrel
    by_cases hlt : k < m
    · by_cases h9 : k < 9
      · have hkl : k < l.length := by rw [HM.out]; exact hlt
        obtain ⟨b, off, rfl, hc⟩ := HH.out (by omega)
        have hb := hc k hkl
        rw [List.getD_eq_getElem?_getD, List.getElem?_eq_getElem hkl, Option.getD_some] at hb
        obtain ⟨x, hx⟩ : ∃ x : Int, (((l[k]).toNat : Nat) : Int) = x := ⟨_, rfl⟩
        rw [hx] at hb
        have HX := hid hx
        have x0 : 0 ≤ x := by omega
        have x1 : x < 256 := by have := u8_lt l[k]; omega
        have HV : Hid (wrap64 (N + wrap64 (x % 128 * P)) = ((n + 2 ^ (7 * k) * (l[k].toNat % 128) : Nat) : Int) ∧ n + 2 ^ (7 * k) * (l[k].toNat % 128) < 2 ^ (7 * (k + 1)) ∧ (k + 1 ≤ 8 → wrap64 (P * 128) = ((2 ^ (7 * (k + 1)) : Nat) : Int))) := by
          obtain ⟨q1, q2, q3⟩ := HK.out
          have q3 := q3 (by omega)
          have hp : (2 : Nat) ^ (7 * k) ≤ 2 ^ 56 := Nat.pow_le_pow_right (by decide) (by omega)
          have hmm : 2 ^ (7 * k) * (l[k].toNat % 128) ≤ 2 ^ (7 * k) * 127 := Nat.mul_le_mul (Nat.le_refl _) (by omega)
          have e0 : x % 128 * P = ((2 ^ (7 * k) * (l[k].toNat % 128) : Nat) : Int) := by
            rw [q3, ← HX.out]
            push_cast
            rw [Int.mul_comm]
          have e7 : 2 ^ (7 * (k + 1)) = 2 ^ (7 * k) * 128 := by rw [show 7 * (k + 1) = 7 * k + 7 by omega, Nat.pow_add]
          have e1 : wrap64 (x % 128 * P) = ((2 ^ (7 * k) * (l[k].toNat % 128) : Nat) : Int) := by rw [e0]; unfold wrap64; omega
          refine ⟨?_, by rw [e7]; omega, fun h8 => ?_⟩
          · rw [e1, q1]; unfold wrap64; omega
          · have hp2 : (2 : Nat) ^ (7 * k) ≤ 2 ^ 49 := Nat.pow_le_pow_right (by decide) (by omega)
            rw [e7, q3]; unfold wrap64; omega
        have HD : Hid (tk l = (tkGo (9 - (k + 1) + 1) k (l[k] :: l.drop (k + 1))).map (fun p => (n + 2 ^ (7 * k) * p.1, p.2))) := by
          unfold Hid
          rw [HT.out, show 9 - (k + 1) + 1 = 9 - k by omega, List.drop_eq_getElem_cons hkl]
        have HY := hid hc
        clear hx hc HT HK
        by_cases hx128 : x < 128
        · by_cases hz : 0 < k ∧ x = 0
          · obtain ⟨hk0, rfl⟩ := hz
            go_wp2
            refine bodyPost_ret (results_tmp3 rfl _ _ _) rfl ?_
            have e : tk l = none := by
              have := HX.out
              rw [HD.out, tkGo, if_pos (by omega), if_pos (by omega)]; rfl
            rw [e]
            exact ⟨rfl, Below.refl _ _⟩
          · have hz2 : k < 1 ∨ ¬ x = 0 := by omega
            have e : Hid (tk l = some (n + 2 ^ (7 * k) * (l[k].toNat % 128), l.drop (k + 1))) := by
              have := HX.out
              unfold Hid
              rw [HD.out, tkGo, if_pos (by omega), if_neg (by omega)]
              simp only [Option.map_some, Option.some.injEq, Prod.mk.injEq, and_true]
              rw [Nat.mod_eq_of_lt (by omega : l[k].toNat < 128)]
            by_cases hkc : k + 1 < c
            · have HC : Hid (Calls Tryz.prog 68 #[.slice (some ⟨b, off + (k + 1), none⟩) (m - (k + 1)) (c - (k + 1))] wr fun e w' => ∃ v', e = .returned v' ∧ Row w' wr.heap.size v' (l.drop (k + 1)) ∧ Below wr.heap.size wr w') := by
                have q := sla_part (by rw [HM.out]; exact hc1) hc2 HY.out (k + 1) (m - (k + 1)) (by rw [HM.out]; omega)
                rw [List.take_of_length_le (by rw [List.length_drop, HM.out]; omega)] at q
                exact copy_any _ (l.drop (k + 1)) (by rw [List.length_drop, HM.out]; omega) wr q
              rcases hz2 with hz2 | hz2
              all_goals
                go_wp2_with (go_at_call 68; refine HC.out.mono ?_; rintro e w1 ⟨v', rfl, hR, hb1⟩)
                all_goals
                  refine bodyPost_ret (results_tmp3 rfl _ _ _) rfl ?_
                  rw [e.out]
                  exact ⟨v', congrArg (fun z => Ending.returned (.tuple #[.int .i64 z, v', .bool true])) HV.out.1, hR, hb1⟩
            · obtain rfl : c = k + 1 := by omega
              obtain rfl : m = k + 1 := by omega
              have HC : Hid (Calls Tryz.prog 68 #[.slice (some ⟨b, off, none⟩) 0 0] wr fun e w' => ∃ v', e = .returned v' ∧ Row w' wr.heap.size v' (l.drop (k + 1)) ∧ Below wr.heap.size wr w') := by
                have e2 : l.drop (k + 1) = [] := List.drop_eq_nil_of_le (by rw [HM.out]; omega)
                rw [e2]
                exact copy_any _ [] (by simp) wr ⟨_, 0, rfl, by simp, by omega, fun h => absurd h (by simp), fun h => by cases h⟩
              rcases hz2 with hz2 | hz2
              all_goals
                go_wp2_with (go_at_call 68; refine HC.out.mono ?_; rintro e w1 ⟨v', rfl, hR, hb1⟩)
                all_goals
                  refine bodyPost_ret (results_tmp3 rfl _ _ _) rfl ?_
                  rw [e.out]
                  exact ⟨v', congrArg (fun z => Ending.returned (.tuple #[.int .i64 z, v', .bool true])) HV.out.1, hR, hb1⟩
        · go_wp2
          go_roundw
          case rel =>
            have h3 := HV.out
            refine ⟨k + 1, n + 2 ^ (7 * k) * (l[k].toNat % 128), _, _, by omega, by omega, ⟨h3.1, h3.2.1, h3.2.2⟩, rfl, rfl, by go_num, ?_, trivial⟩
            unfold Hid
            have := HX.out
            rw [HD.out, tkGo, if_neg (by omega), Option.map_map]
            congr 1
            funext p
            simp only [Function.comp, Prod.mk.injEq, and_true]
            rw [show 7 * (k + 1) = 7 * k + 7 by omega, Nat.pow_add, Nat.mul_add, Nat.mul_assoc, Nat.add_assoc]
          case measure => simp [intOf]; omega
      · have e : tk l = none := by
          rw [HT.out, show 9 - k = 0 by omega]; rfl
        go_wp2
        refine bodyPost_ret (results_tmp3 rfl _ _ _) rfl ?_
        rw [e]
        exact ⟨rfl, Below.refl _ _⟩
    · have e : tk l = none := by
        rw [HT.out, List.drop_eq_nil_of_le (by have := HM.out; omega)]
        cases 9 - k <;> rfl
      go_wp2
      refine bodyPost_ret (results_tmp3 rfl _ _ _) rfl ?_
      rw [e]
      exact ⟨rfl, Below.refl _ _⟩
end Go.Proofs.YtofkfafdodhmdaaGreatDoor
