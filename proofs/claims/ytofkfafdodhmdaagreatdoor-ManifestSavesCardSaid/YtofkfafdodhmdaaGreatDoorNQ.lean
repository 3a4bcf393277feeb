/- Several texts in one: SCP SCQ SCR SCS SCU. Conditions: as each theorem names them. -/
import Derived.Test.YtofkfafdodhmdaaGreatDoorNH
import Derived.Test.YtofkfafdodhmdaaGreatDoorNE
import Derived.Deep.RegionHeld3
/- The document's small functions at any bytes: CopyBytes, Num, Sum, four, open. Conditions: the slices hold their bytes, a million at most. -/
namespace Go.Proofs.YtofkfafdodhmdaaGreatDoor
open Go.RowKit

set_option maxRecDepth 100000 in
set_option maxHeartbeats 2000000 in
theorem refNum_any (n : Nat) (hn : n < 9223372036854775808) (w : World) :
    Calls Tryz.prog 41 #[.int .i64 n] w fun e w' => ∃ v, e = .returned v ∧ Row w' w.heap.size v (numW n) ∧ Below w.heap.size w w' := by
  have hlen := hid (numW_len9 n hn)
  have HR := hid (empty_row w w.heap.size (Nat.le_refl _))
  obtain ⟨y, hy⟩ : ∃ y : Int, (n : Int) = y := ⟨_, rfl⟩
  have HY := hid (And.intro hy.symm hn)
  rw [hy]
  have H0 : 0 ≤ y := by omega
  clear hy hn
  go_enter Tryz.func41, Tryz.ntmps41
  go_wp2
  go_loopw [0, 3] (fun vn va wr => ∃ (m : Nat) (x : Int) (pre : List UInt8), Hid (x = (m : Int) ∧ m < 9223372036854775808) ∧ 0 ≤ x ∧ vn = .int .i64 x ∧ Hid (numW n = pre ++ numW m) ∧ Row wr w.heap.size va pre ∧ Below w.heap.size w wr) (fun vn _ _ => (intOf vn).toNat)
  case atStart => exact ⟨n, y, [], HY, H0, rfl, rfl, HR.out, below_new w _⟩
  case round =>
    obtain ⟨m, x, pre, HX, h0, rfl, HP, hR, hb⟩ := hrel
    have hpl : pre.length ≤ 9 := by have h1 := hlen.out; have h2 := congrArg List.length HP.out; rw [List.length_append] at h2; omega
    have HPL := hid hpl
    have HR2 := hid hR
    have hbs := hb.size
    clear hR hpl
    by_cases h128 : x < 128
    · have HE : Hid (x = ((UInt8.ofNat m).toNat : Int)) := by unfold Hid; have := HX.out; rw [UInt8.toNat_ofNat']; omega
      have HN : Hid (numW m = [UInt8.ofNat m]) := numW_small (by have := HX.out; omega)
      go_wp2_with (at_builtin; refine wpList_append_bytes rfl (.tmp 19) (.tmp 22) rfl _ w.heap.size _ pre rfl (HR2.out.alloc _) ⟨wr.heap.size, 0, none⟩ 1 1 [UInt8.ofNat m] rfl rfl (one_new' _ _ _ _ HE.out) (by have := HPL.out; simp only [List.length_cons, List.length_nil]; omega) (by simp; omega) ?_; intro v' w' hR' hb')
      go_ret
      refine ⟨_, rfl, ?_, (hb.alloc hbs _).trans hb'⟩
      rw [HP.out, HN.out]
      exact hR'
    · have HE : Hid (128 + x % 128 = ((UInt8.ofNat (128 + m % 128)).toNat : Int)) := by unfold Hid; have := HX.out; rw [UInt8.toNat_ofNat']; omega
      have HN : Hid (numW m = UInt8.ofNat (128 + m % 128) :: numW (m / 128)) := numW_big (by have := HX.out; omega)
      have HD : Hid (wrap64 (x.tdiv 128) = x / 128) := by
        unfold Hid
        have := HX.out
        rw [Int.tdiv_eq_ediv_of_nonneg h0]
        unfold wrap64
        omega
      go_wp2_with (at_builtin; refine wpList_append_bytes rfl (.tmp 10) (.tmp 15) rfl _ w.heap.size _ pre rfl (HR2.out.alloc _) ⟨wr.heap.size, 0, none⟩ 1 1 [UInt8.ofNat (128 + m % 128)] rfl rfl (one_new' _ _ _ _ HE.out) (by have := HPL.out; simp only [List.length_cons, List.length_nil]; omega) (by simp; omega) ?_; intro v' w' hR' hb')
      go_roundw
      case rel =>
        refine ⟨m / 128, x / 128, pre ++ [UInt8.ofNat (128 + m % 128)], ?_, by omega, congrArg (Value.int .i64) HD.out, ?_, hR', (hb.alloc hbs _).trans hb'⟩
        · unfold Hid; have := HX.out; omega
        · unfold Hid; rw [HP.out, HN.out, List.append_assoc]; rfl
      case measure => rw [HD.out]; simp [intOf]; omega

set_option maxRecDepth 100000 in
set_option maxHeartbeats 2000000 in
theorem refSum_any (v : Value) (l : List UInt8) (hl : l.length ≤ 1000000) (w : World) (h : SlA w v l) :
    Calls Tryz.prog 73 #[v] w fun e w' => e = .returned (.int .i64 ((sumN l : Nat) : Int)) ∧ w' = w := by
  obtain ⟨A, c, rfl, _, _, hh, _⟩ := h
  have HH := hid hh
  obtain ⟨m, hm⟩ : ∃ m, l.length = m := ⟨_, rfl⟩
  have hl2 : m ≤ 1000000 := by rw [← hm]; exact hl
  rw [hm]
  have HM := hid hm
  clear hm hh
  go_enter Tryz.func73, Tryz.ntmps73
  go_wp2
  go_loopw [3, 4, 5] (fun vx vy vi wr => ∃ (k : Nat) (x y : Int), k ≤ m ∧ vi = .int .i64 k ∧ vx = .int .i64 x ∧ vy = .int .i64 y ∧ 0 ≤ x ∧ x < 65521 ∧ 0 ≤ y ∧ y < 65521 ∧ Hid (x = (lo (l.take k) : Nat) ∧ y = (hi (l.take k) : Nat)) ∧ wr = w) (fun _ _ vi _ => m - (intOf vi).toNat)
  case atStart => exact ⟨0, 1, 0, Nat.zero_le _, rfl, rfl, rfl, by omega, by omega, by omega, by omega, ⟨rfl, rfl⟩, rfl⟩
  case round =>
    obtain ⟨k, x, y, hk, rfl, rfl, rfl, x0, x1, y0, y1, HX, rfl⟩ := hrel
    by_cases hlt : k < m
    · have hkl : k < l.length := by rw [HM.out]; exact hlt
      obtain ⟨b, off, rfl, hc⟩ := HH.out (by omega)
      have hb := hc k hkl
      rw [List.getD_eq_getElem?_getD, List.getElem?_eq_getElem hkl, Option.getD_some] at hb
      obtain ⟨z, hz⟩ : ∃ z : Int, (((l[k]).toNat : Nat) : Int) = z := ⟨_, rfl⟩
      rw [hz] at hb
      have z0 : 0 ≤ z := by omega
      have z1 : z < 256 := by have := u8_lt l[k]; omega
      have HN : Hid ((x + z) % 65521 = (lo (l.take (k + 1)) : Nat) ∧ (y + (x + z) % 65521) % 65521 = (hi (l.take (k + 1)) : Nat)) := by
        have h3 := HX.out
        rw [take_next l k hkl]
        have e1 := lo_app (l.take k) [l[k]]
        have e2 := hi_app (l.take k) [l[k]]
        simp only [un] at e1 e2
        refine ⟨by rw [e1]; omega, by rw [e2]; omega⟩
      clear hc hz
      go_wp2
      go_roundw
      case rel => exact ⟨k + 1, _, _, by omega, by go_num, rfl, rfl, by omega, by omega, by omega, by omega, HN.out, trivial⟩
      case measure => simp [intOf]; omega
    · go_wp2
      go_ret
      have h3 := HX.out
      rw [List.take_of_length_le (by have := HM.out; omega)] at h3
      rw [sumN_eq]
      refine ⟨?_, rfl⟩
      show Ending.returned (.int .i64 (y * 65536 + x)) = _
      rw [h3.1, h3.2]
      simp

set_option maxRecDepth 100000 in
set_option maxHeartbeats 1000000 in
theorem four_any (s : Nat) (hs : s < 4294967296) (w : World) :
    Calls Tryz.prog 72 #[.int .i64 s] w fun e w' => ∃ v, e = .returned v ∧ Row w' w.heap.size v (byW 4 s) ∧ Below w.heap.size w w' := by
  obtain ⟨S, hS⟩ : ∃ S : Int, (s : Int) = S := ⟨_, rfl⟩
  have HE := hid (And.intro hS hs)
  have s0 : 0 ≤ S := by omega
  have s1 : S < 4294967296 := by omega
  rw [hS]
  clear hS hs
  go_enter Tryz.func72, Tryz.ntmps72
  go_wp2
  go_ret
  refine ⟨_, rfl, ?_, below_new w _⟩
  refine seal_row w w.heap.size (Nat.le_refl _) s _ _ _ _ ?_ ?_ ?_ ?_ <;> (have := HE.out; rw [UInt8.toNat_ofNat']; omega)

set_option maxRecDepth 100000 in
set_option maxHeartbeats 1000000 in
theorem open_any (v : Value) (l : List UInt8) (hl : l.length ≤ 1000000) (w : World) (h : SlA w v l) :
    Calls Tryz.prog 105 #[v] w fun e w' => e = .returned (.bool (openB l)) ∧ w' = w := by
  obtain ⟨A, c, rfl, _, _, hh, _⟩ := h
  have HH := hid hh
  obtain ⟨m, hm⟩ : ∃ m, l.length = m := ⟨_, rfl⟩
  rw [hm] at hl ⊢
  have HM := hid hm
  have HO : Hid (openB l = (decide ((m : Int) ≤ 8) && allBig l)) := by
    unfold Hid openB allBig
    rw [hm, show decide (m ≤ 8) = decide ((m : Int) ≤ 8) from decide_eq_decide.2 (by omega)]
  clear hm hh
  go_enter Tryz.func105, Tryz.ntmps105
  go_wp2
  go_loopw [3] (fun vi wr => ∃ k : Nat, k ≤ m ∧ vi = .int .i64 k ∧ Hid (allBig (l.take k) = true) ∧ wr = w) (fun vi _ => m - (intOf vi).toNat)
  case atStart => exact ⟨0, by omega, rfl, rfl, rfl⟩
  case round =>
    obtain ⟨k, hk, rfl, HA, rfl⟩ := hrel
    by_cases hlt : k < m
    · have hkl : k < l.length := by rw [HM.out]; exact hlt
      obtain ⟨b, off, rfl, hc⟩ := HH.out (by omega)
      have hb := hc k hkl
      rw [List.getD_eq_getElem?_getD, List.getElem?_eq_getElem hkl, Option.getD_some] at hb
      obtain ⟨x, hx⟩ : ∃ x : Int, (((l[k]).toNat : Nat) : Int) = x := ⟨_, rfl⟩
      rw [hx] at hb
      have HX := hid hx
      clear hx hc
      by_cases hx128 : x < 128
      · have HB : Hid (allBig l = false) := allBig_no hkl (by have := HX.out; omega)
        go_wp2
        go_ret
        rw [HO.out, HB.out, Bool.and_false]
        exact ⟨rfl, rfl⟩
      · go_wp2
        go_roundw
        case rel =>
          refine ⟨k + 1, by omega, by go_num, ?_, trivial⟩
          unfold Hid
          rw [allBig_take hkl, HA.out, Bool.true_and, decide_eq_true_eq]
          have := HX.out
          omega
        case measure => simp [intOf]; omega
    · have HB : Hid (allBig l = true) := by
        have h1 := HA.out
        rwa [List.take_of_length_le (by have := HM.out; omega)] at h1
      go_wp2
      go_ret
      rw [HO.out, HB.out, Bool.and_true]
      exact ⟨rfl, rfl⟩
end Go.Proofs.YtofkfafdodhmdaaGreatDoor

/- The document's Take at any bytes. Conditions: the slice holds its bytes, a million at most. -/
namespace Go.Proofs.YtofkfafdodhmdaaGreatDoor
open Go.RowKit

def TkEnd (w : World) : Option (Nat × List UInt8) → Ending → World → Prop
  | some p, e, w' => ∃ v, e = .returned (.tuple #[.int .i64 (p.1 : Int), v, .bool true]) ∧ Row w' w.heap.size v p.2 ∧ Below w.heap.size w w'
  | none, e, w' => e = .returned (.tuple #[.int .i64 0, .slice none 0 0, .bool false]) ∧ Below w.heap.size w w'

set_option maxRecDepth 100000 in
set_option maxHeartbeats 2000000 in
theorem refTake_any (v : Value) (l : List UInt8) (hl : l.length ≤ 1000000) (w : World) (h : SlA w v l) :
    Calls Tryz.prog 43 #[v] w (TkEnd w (tk l)) := by
  obtain ⟨A, c, rfl, hc1, hc2, hh, _⟩ := h
  have HH := hid hh
  obtain ⟨m, hm⟩ : ∃ m, l.length = m := ⟨_, rfl⟩
  rw [hm] at hl hc1 ⊢
  have HM := hid hm
  clear hm hh
  go_enter Tryz.func43, Tryz.ntmps43
  go_wp2
  go_loopw [5, 6, 7] (fun vn vp vi wr => ∃ (k n : Nat) (N P : Int), k ≤ m ∧ k ≤ 9 ∧ Hid (N = (n : Int) ∧ n < 2 ^ (7 * k) ∧ (k ≤ 8 → P = ((2 ^ (7 * k) : Nat) : Int))) ∧ vn = .int .i64 N ∧ vp = .int .i64 P ∧ vi = .int .i64 k ∧ Hid (tk l = (tkGo (9 - k) k (l.drop k)).map (fun p => (n + 2 ^ (7 * k) * p.1, p.2))) ∧ wr = w) (fun _ _ vi _ => 9 - (intOf vi).toNat)
  case atStart => exact ⟨0, 0, 0, 1, by omega, by omega, ⟨rfl, by decide, fun _ => rfl⟩, rfl, rfl, rfl, by unfold Hid tk; simp, rfl⟩
  case round =>
    obtain ⟨k, n, N, P, hk, hk9, HK, rfl, rfl, rfl, HT, rfl⟩ := hrel
    by_cases hlt : k < m
    · by_cases h9 : k < 9
      · have hkl : k < l.length := by rw [HM.out]; exact hlt
        obtain ⟨b, off, rfl, hc⟩ := HH.out (by omega)
        have hb := hc k hkl
        rw [List.getD_eq_getElem?_getD, List.getElem?_eq_getElem hkl, Option.getD_some] at hb
        obtain ⟨x, hx⟩ : ∃ x : Int, (((l[k]).toNat : Nat) : Int) = x := ⟨_, rfl⟩
        rw [hx] at hb
        have HX := hid hx
        have x0 : 0 ≤ x := by omega
        have x1 : x < 256 := by have := u8_lt l[k]; omega
        have HV : Hid (wrap64 (N + wrap64 (x % 128 * P)) = ((n + 2 ^ (7 * k) * (l[k].toNat % 128) : Nat) : Int) ∧ n + 2 ^ (7 * k) * (l[k].toNat % 128) < 2 ^ (7 * (k + 1)) ∧ (k + 1 ≤ 8 → wrap64 (P * 128) = ((2 ^ (7 * (k + 1)) : Nat) : Int))) := by
          obtain ⟨q1, q2, q3⟩ := HK.out
          have q3 := q3 (by omega)
          have hp : (2 : Nat) ^ (7 * k) ≤ 2 ^ 56 := Nat.pow_le_pow_right (by decide) (by omega)
          have hmm : 2 ^ (7 * k) * (l[k].toNat % 128) ≤ 2 ^ (7 * k) * 127 := Nat.mul_le_mul (Nat.le_refl _) (by omega)
          have e0 : x % 128 * P = ((2 ^ (7 * k) * (l[k].toNat % 128) : Nat) : Int) := by
            rw [q3, ← HX.out]
            push_cast
            rw [Int.mul_comm]
          have e7 : 2 ^ (7 * (k + 1)) = 2 ^ (7 * k) * 128 := by rw [show 7 * (k + 1) = 7 * k + 7 by omega, Nat.pow_add]
          have e1 : wrap64 (x % 128 * P) = ((2 ^ (7 * k) * (l[k].toNat % 128) : Nat) : Int) := by rw [e0]; unfold wrap64; omega
          refine ⟨?_, by rw [e7]; omega, fun h8 => ?_⟩
          · rw [e1, q1]; unfold wrap64; omega
          · have hp2 : (2 : Nat) ^ (7 * k) ≤ 2 ^ 49 := Nat.pow_le_pow_right (by decide) (by omega)
            rw [e7, q3]; unfold wrap64; omega
        have HD : Hid (tk l = (tkGo (9 - (k + 1) + 1) k (l[k] :: l.drop (k + 1))).map (fun p => (n + 2 ^ (7 * k) * p.1, p.2))) := by
          unfold Hid
          rw [HT.out, show 9 - (k + 1) + 1 = 9 - k by omega, List.drop_eq_getElem_cons hkl]
        have HY := hid hc
        clear hx hc HT HK
        by_cases hx128 : x < 128
        · by_cases hz : 0 < k ∧ x = 0
          · obtain ⟨hk0, rfl⟩ := hz
            go_wp2
            refine bodyPost_ret (results_tmp3 rfl _ _ _) rfl ?_
            have e : tk l = none := by
              have := HX.out
              rw [HD.out, tkGo, if_pos (by omega), if_pos (by omega)]; rfl
            rw [e]
            exact ⟨rfl, Below.refl _ _⟩
          · have hz2 : k < 1 ∨ ¬ x = 0 := by omega
            have e : Hid (tk l = some (n + 2 ^ (7 * k) * (l[k].toNat % 128), l.drop (k + 1))) := by
              have := HX.out
              unfold Hid
              rw [HD.out, tkGo, if_pos (by omega), if_neg (by omega)]
              simp only [Option.map_some, Option.some.injEq, Prod.mk.injEq, and_true]
              rw [Nat.mod_eq_of_lt (by omega : l[k].toNat < 128)]
            by_cases hkc : k + 1 < c
            · have HC : Hid (Calls Tryz.prog 68 #[.slice (some ⟨b, off + (k + 1), none⟩) (m - (k + 1)) (c - (k + 1))] wr fun e w' => ∃ v', e = .returned v' ∧ Row w' wr.heap.size v' (l.drop (k + 1)) ∧ Below wr.heap.size wr w') := by
                have q := sla_part (by rw [HM.out]; exact hc1) hc2 HY.out (k + 1) (m - (k + 1)) (by rw [HM.out]; omega)
                rw [List.take_of_length_le (by rw [List.length_drop, HM.out]; omega)] at q
                exact copy_any _ (l.drop (k + 1)) (by rw [List.length_drop, HM.out]; omega) wr q
              rcases hz2 with hz2 | hz2
              all_goals
                go_wp2_with (go_at_call 68; refine HC.out.mono ?_; rintro e w1 ⟨v', rfl, hR, hb1⟩)
                all_goals
                  refine bodyPost_ret (results_tmp3 rfl _ _ _) rfl ?_
                  rw [e.out]
                  exact ⟨v', congrArg (fun z => Ending.returned (.tuple #[.int .i64 z, v', .bool true])) HV.out.1, hR, hb1⟩
            · obtain rfl : c = k + 1 := by omega
              obtain rfl : m = k + 1 := by omega
              have HC : Hid (Calls Tryz.prog 68 #[.slice (some ⟨b, off, none⟩) 0 0] wr fun e w' => ∃ v', e = .returned v' ∧ Row w' wr.heap.size v' (l.drop (k + 1)) ∧ Below wr.heap.size wr w') := by
                have e2 : l.drop (k + 1) = [] := List.drop_eq_nil_of_le (by rw [HM.out]; omega)
                rw [e2]
                exact copy_any _ [] (by simp) wr ⟨_, 0, rfl, by simp, by omega, fun h => absurd h (by simp), fun h => by cases h⟩
              rcases hz2 with hz2 | hz2
              all_goals
                go_wp2_with (go_at_call 68; refine HC.out.mono ?_; rintro e w1 ⟨v', rfl, hR, hb1⟩)
                all_goals
                  refine bodyPost_ret (results_tmp3 rfl _ _ _) rfl ?_
                  rw [e.out]
                  exact ⟨v', congrArg (fun z => Ending.returned (.tuple #[.int .i64 z, v', .bool true])) HV.out.1, hR, hb1⟩
        · go_wp2
          go_roundw
          case rel =>
            have h3 := HV.out
            refine ⟨k + 1, n + 2 ^ (7 * k) * (l[k].toNat % 128), _, _, by omega, by omega, ⟨h3.1, h3.2.1, h3.2.2⟩, rfl, rfl, by go_num, ?_, trivial⟩
            unfold Hid
            have := HX.out
            rw [HD.out, tkGo, if_neg (by omega), Option.map_map]
            congr 1
            funext p
            simp only [Function.comp, Prod.mk.injEq, and_true]
            rw [show 7 * (k + 1) = 7 * k + 7 by omega, Nat.pow_add, Nat.mul_add, Nat.mul_assoc, Nat.add_assoc]
          case measure => simp [intOf]; omega
      · have e : tk l = none := by
          rw [HT.out, show 9 - k = 0 by omega]; rfl
        go_wp2
        refine bodyPost_ret (results_tmp3 rfl _ _ _) rfl ?_
        rw [e]
        exact ⟨rfl, Below.refl _ _⟩
    · have e : tk l = none := by
        rw [HT.out, List.drop_eq_nil_of_le (by have := HM.out; omega)]
        cases 9 - k <;> rfl
      go_wp2
      refine bodyPost_ret (results_tmp3 rfl _ _ _) rfl ?_
      rw [e]
      exact ⟨rfl, Below.refl _ _⟩
end Go.Proofs.YtofkfafdodhmdaaGreatDoor

/- The document's Frame at any bytes. Conditions: the slice holds its bytes, 65536 at most. -/
namespace Go.Proofs.YtofkfafdodhmdaaGreatDoor
open Go.RowKit

set_option maxRecDepth 100000 in
set_option maxHeartbeats 2000000 in
theorem refFrame_any (v : Value) (l : List UInt8) (hlen : l.length ≤ 65536) (w : World) (h : SlA w v l) :
    Calls Tryz.prog 37 #[v] w fun e w' => ∃ v', e = .returned (.tuple #[v', .bool true]) ∧ Row w' w.heap.size v' (frameM l) ∧ Below w.heap.size w w' := by
  have HV := hid h
  obtain ⟨A, c, rfl, h2, h3, h4⟩ := h
  obtain ⟨n, hn⟩ : ∃ n, l.length = n := ⟨_, rfl⟩
  have HL := hid hlen
  have HN : Hid (∀ W : World, Calls Tryz.prog 41 #[.int .i64 (n : Int)] W fun e w' => ∃ v, e = .returned v ∧ Row w' W.heap.size v (numW l.length) ∧ Below W.heap.size W w') := fun W => by rw [hn]; exact refNum_any n (by omega) W
  have HS : Hid (∀ W : World, SlA W (.slice A n c) l → Calls Tryz.prog 73 #[.slice A n c] W fun e w' => e = .returned (.int .i64 ((sumN l : Nat) : Int)) ∧ w' = W) := fun W hW => refSum_any _ l (by omega) W hW
  have HF : Hid (∀ W : World, Calls Tryz.prog 72 #[.int .i64 ((sumN l : Nat) : Int)] W fun e w' => ∃ v, e = .returned v ∧ Row w' W.heap.size v (byW 4 (sumN l)) ∧ Below W.heap.size W w') := fun W => four_any _ (sumN_lt l) W
  have HNL : Hid ((numW l.length).length ≤ 9) := numW_len9 _ (by omega)
  have HE := hid hn
  rw [hn]
  rw [hn] at hlen HV
  clear h2 h3 h4 hn
  go_enter Tryz.func37, Tryz.ntmps37
  go_wp2_with (first
    | (go_at_call 41; refine (HN.out _).mono ?_; rintro e w1 ⟨v1, rfl, hR1, hb1⟩)
    | (go_at_call 73; refine (HS.out _ (HV.out.below (hb1.trans hb2))).mono ?_; rintro e w3 ⟨rfl, rfl⟩)
    | (go_at_call 72; refine (HF.out _).mono ?_; rintro e w4 ⟨v4, rfl, hR4, hb4⟩; have hS4 := hid hR4.sla; obtain ⟨A4, c4, rfl, _, _, _⟩ := hR4.sla)
    | (at_builtin; refine wpList_append_any rfl (.tmp 10) (.tmp 11) rfl rfl _ w.heap.size _ (numW l.length) rfl hR1 A c l (by rw [HE.out]; rfl) (HV.out.below hb1).holdsA (by have := HL.out; have := HNL.out; omega) hb1.size ?_; intro v2 w2 hR2 hb2)
    | (at_builtin; refine wpList_append_any rfl (.tmp 13) (.tmp 16) rfl rfl _ w.heap.size _ (numW l.length ++ l) rfl (hR2.keep hb4 hR2.block_lt) A4 c4 (byW 4 (sumN l)) rfl hS4.out.holdsA (by have := HL.out; have := HNL.out; rw [List.length_append, byW_len]; omega) (Nat.le_trans (hb1.trans hb2).size hb4.size) ?_; intro v5 w5 hR5 hb5))
  go_ret2
  exact ⟨_, rfl, hR5, ((hb1.trans hb2).trans (hb4.mono (hb1.trans hb2).size)).trans hb5⟩
end Go.Proofs.YtofkfafdodhmdaaGreatDoor

/- The document's Next at any bytes. Conditions: the slice holds its bytes, a million at most. -/
namespace Go.Proofs.YtofkfafdodhmdaaGreatDoor
open Go.RowKit

def RxEnd (w : World) : Nx → Ending → World → Prop
  | .whole x r, e, w' => ∃ v1 v2, e = .returned (.tuple #[v1, v2, .int .i64 0]) ∧ Row w' w.heap.size v1 x ∧ Row w' w.heap.size v2 r ∧ Below w.heap.size w w'
  | .torn, e, w' => e = .returned (.tuple #[.slice none 0 0, .slice none 0 0, .int .i64 1]) ∧ Below w.heap.size w w'
  | .bad, e, w' => e = .returned (.tuple #[.slice none 0 0, .slice none 0 0, .int .i64 2]) ∧ Below w.heap.size w w'

set_option maxHeartbeats 1000000 in
theorem rx_open (A : Option Addr) (m c : Nat) (w : World) (HO : Calls Tryz.prog 105 #[.slice A m c] w fun e w' => e = .returned (.bool true) ∧ w' = w) :
    Calls Tryz.prog 79 #[.slice A m c] w (RxEnd w .torn) := by
  have HO := hid HO
  go_enter Tryz.func79, Tryz.ntmps79
  go_wp2_with (go_at_call 105; refine HO.out.mono ?_; rintro e w1 ⟨rfl, rfl⟩)
  refine bodyPost_ret (results_tmp3 rfl _ _ _) rfl ?_
  exact ⟨rfl, Below.refl _ _⟩

set_option maxHeartbeats 1000000 in
theorem rx_none (A : Option Addr) (m c : Nat) (w : World) (HO : Calls Tryz.prog 105 #[.slice A m c] w fun e w' => e = .returned (.bool false) ∧ w' = w)
    (HT : Calls Tryz.prog 43 #[.slice A m c] w fun e w' => e = .returned (.tuple #[.int .i64 0, .slice none 0 0, .bool false]) ∧ Below w.heap.size w w') :
    Calls Tryz.prog 79 #[.slice A m c] w (RxEnd w .bad) := by
  have HO := hid HO
  have HT := hid HT
  go_enter Tryz.func79, Tryz.ntmps79
  go_wp2_with (first | (go_at_call 105; refine HO.out.mono ?_; rintro e w1 ⟨rfl, rfl⟩) | (go_at_call 43; refine HT.out.mono ?_; rintro e w2 ⟨rfl, hb⟩))
  refine bodyPost_ret (results_tmp3 rfl _ _ _) rfl ?_
  exact ⟨rfl, hb⟩

set_option maxHeartbeats 1000000 in
/-- Too great a number, or too few bytes behind it. -/
theorem rx_less (A : Option Addr) (m c n T : Nat) (hn : n < 9223372036854775808) (q : Nx) (hq : (65536 < n ∧ q = .bad) ∨ (n ≤ 65536 ∧ T < n + 4 ∧ q = .torn)) (w : World) (HO : Calls Tryz.prog 105 #[.slice A m c] w fun e w' => e = .returned (.bool false) ∧ w' = w)
    (HT : Calls Tryz.prog 43 #[.slice A m c] w fun e w' => ∃ A2 c2, e = .returned (.tuple #[.int .i64 (n : Int), .slice A2 T c2, .bool true]) ∧ Below w.heap.size w w') :
    Calls Tryz.prog 79 #[.slice A m c] w (RxEnd w q) := by
  have HO := hid HO
  obtain ⟨N, hN⟩ : ∃ N : Int, (n : Int) = N := ⟨_, rfl⟩
  rw [hN] at HT
  have HT := hid HT
  have n0 : 0 ≤ N := by omega
  rcases hq with ⟨h1, rfl⟩ | ⟨h1, h2, rfl⟩
  · have h3 : 65536 < N := by omega
    clear hN h1 hn
    go_enter Tryz.func79, Tryz.ntmps79
    go_wp2_with (first | (go_at_call 105; refine HO.out.mono ?_; rintro e w1 ⟨rfl, rfl⟩) | (go_at_call 43; refine HT.out.mono ?_; rintro e w2 ⟨A2, c2, rfl, hb⟩))
    refine bodyPost_ret (results_tmp3 rfl _ _ _) rfl ?_
    exact ⟨rfl, hb⟩
  · have h3 : N ≤ 65536 := by omega
    have h4 : (T : Int) < N + 4 := by omega
    clear hN h1 hn h2
    go_enter Tryz.func79, Tryz.ntmps79
    go_wp2_with (first | (go_at_call 105; refine HO.out.mono ?_; rintro e w1 ⟨rfl, rfl⟩) | (go_at_call 43; refine HT.out.mono ?_; rintro e w2 ⟨A2, c2, rfl, hb⟩))
    refine bodyPost_ret (results_tmp3 rfl _ _ _) rfl ?_
    exact ⟨rfl, hb⟩

/-- What Next walks by behind Take. -/
structure RxHyp (w : World) (g n T cap : Nat) (s : Int) (d : Bool) (x r sl : List UInt8) : Prop where
  sum : ∀ W, Below w.heap.size w W → Calls Tryz.prog 73 #[.slice (some ⟨g, 0, none⟩) n cap] W fun e w' => e = .returned (.int .i64 s) ∧ w' = W
  four : ∀ W, Calls Tryz.prog 72 #[.int .i64 s] W fun e w' => ∃ v, e = .returned v ∧ Hid (SlA w' v sl) ∧ Below W.heap.size W w'
  same : ∀ W v, Below w.heap.size w W → SlA W v sl → Calls Tryz.prog 17 #[v, .slice (some ⟨g, n, none⟩) 4 (cap - n)] W fun e w' => e = .returned (.bool d) ∧ Below W.heap.size W w'
  c1 : ∀ W, Below w.heap.size w W → Calls Tryz.prog 68 #[.slice (some ⟨g, 0, none⟩) n cap] W fun e w' => ∃ v', e = .returned v' ∧ Hid (Row w' w.heap.size v' x) ∧ Below W.heap.size W w'
  c2 : n + 4 < cap → ∀ W, Below w.heap.size w W → Calls Tryz.prog 68 #[.slice (some ⟨g, n + 4, none⟩) (T - (n + 4)) (cap - (n + 4))] W fun e w' => ∃ v', e = .returned v' ∧ Hid (Row w' w.heap.size v' r) ∧ Below W.heap.size W w'
  c3 : cap ≤ n + 4 → ∀ W, Below w.heap.size w W → Calls Tryz.prog 68 #[.slice (some ⟨g, 0, none⟩) 0 0] W fun e w' => ∃ v', e = .returned v' ∧ Hid (Row w' w.heap.size v' r) ∧ Below W.heap.size W w'

set_option maxRecDepth 100000 in
set_option maxHeartbeats 8000000 in
theorem rx_full (A : Option Addr) (m c n T : Nat) (hn : n ≤ 65536) (hT : n + 4 ≤ T) (s : Int) (d : Bool) (x r sl : List UInt8) (q : Nx) (hq : Hid (q = if d then .whole x r else .bad)) (w : World) (HO : Calls Tryz.prog 105 #[.slice A m c] w fun e w' => e = .returned (.bool false) ∧ w' = w)
    (HT : Calls Tryz.prog 43 #[.slice A m c] w fun e w' => ∃ g cap, e = .returned (.tuple #[.int .i64 (n : Int), .slice (some ⟨g, 0, none⟩) T cap, .bool true]) ∧ (T ≤ cap ∧ cap ≤ 9223372036854775807) ∧ Below w.heap.size w w' ∧ Hid (RxHyp w' g n T cap s d x r sl)) :
    Calls Tryz.prog 79 #[.slice A m c] w (RxEnd w q) := by
  have HO := hid HO
  have HT := hid HT
  have p1 : (0 : Int) ≤ (n : Int) := by omega
  have p2 : (n : Int) ≤ (n : Int) + 4 := by omega
  go_enter Tryz.func79, Tryz.ntmps79
  go_wp2_with (first | (go_at_call 105; refine HO.out.mono ?_; rintro e w1 ⟨rfl, rfl⟩) | (go_at_call 43; refine HT.out.mono ?_; rintro e w2 ⟨g, cap, rfl, ⟨hTc, hcm⟩, hb, HX⟩))
  have hHeld : Hid (Below w2.heap.size w2 w2) := Below.refl _ _
  have E1 : Hid (((n : Int) + 4).toNat - n = 4) := by unfold Hid; omega
  have E2 : Hid (((n : Int) + 4).toNat = n + 4) := by unfold Hid; omega
  have p3 : (n : Int) + 4 ≤ (cap : Int) := by omega
  have p4 : (n : Int) ≤ (cap : Int) := by omega
  have p5 : (0 : Int) ≤ (n : Int) + 4 := by omega
  have q1 : IntKind.i64.wrap ((n : Int) + 4) = (n : Int) + 4 := by rw [IntKind.wrap_i64]; omega
  go_region_held3 (fun w' => Hid (Below w2.heap.size w2 w'))
    (first | assumption | exact hid (Below.drew (Hid.out (by assumption))) | exact hid (Below.trans (Hid.out (by assumption)) (hbo.mono (Below.size (Hid.out (by assumption))))))
    (first
      | (go_at_call 73; ((with_reducible refine (HX.out.sum _ ?_).mono ?_); (first | exact Hid.out (by assumption) | exact Below.drew (Hid.out (by assumption))); rintro e w5 ⟨rfl, rfl⟩))
      | (go_at_call 72; ((with_reducible refine (HX.out.four _).mono ?_); rintro e w6 ⟨v4, rfl, hS4, hbo⟩))
      | (go_at_call 17; try rw [E1.out]; ((with_reducible refine (HX.out.same _ _ ?_ ?_).mono ?_); (first | exact Hid.out (by assumption) | exact Below.drew (Hid.out (by assumption))); (first | exact hS4.out | exact SlA.below hS4.out (Below.refl _ _).drew); rintro e w7 ⟨rfl, hbo⟩)))
  rename_i hLast
  cases d with
  | false =>
    go_wp2
    refine bodyPost_ret (results_tmp3 rfl _ _ _) rfl ?_
    rw [hq.out]
    exact ⟨rfl, hb.trans (hLast.out.mono hb.size)⟩
  | true =>
    clear hbo
    go_wp2
    by_cases hc : n + 4 < cap
    · have HC2 := hid (HX.out.c2 hc)
      go_region_held3 (fun w' => Hid (Below w2.heap.size w2 w'))
        (first | assumption | exact hid (Below.drew (Hid.out (by assumption))) | exact hid (Below.trans (Hid.out (by assumption)) (hbo.mono (Below.size (Hid.out (by assumption))))))
        (first
          | (go_at_call 68; ((with_reducible refine (HX.out.c1 _ ?_).mono ?_); (first | exact Hid.out (by assumption) | exact Below.drew (Hid.out (by assumption))); rintro e w8 ⟨v1, rfl, hR1, hbo⟩))
          | (go_at_call 68; try rw [E2.out]; ((with_reducible refine (HC2.out _ ?_).mono ?_); (first | exact Hid.out (by assumption) | exact Below.drew (Hid.out (by assumption))); rintro e w9 ⟨v2, rfl, hR2, hbo⟩)))
      rename_i hLast2
      go_wp2
      refine bodyPost_ret (results_tmp3 rfl _ _ _) rfl ?_
      have e : q = .whole x r := by rw [hq.out]; simp
      rw [e]
      exact ⟨v1, v2, rfl, (hR1.out.keep hbo hR1.out.block_lt).le hb.size, hR2.out.le hb.size, hb.trans (hLast2.out.mono hb.size)⟩
    · have hcA : cap ≤ n + 4 := by omega
      have hTA : T ≤ n + 4 := by omega
      have HC2 := hid (HX.out.c3 hcA)
      go_region_held3 (fun w' => Hid (Below w2.heap.size w2 w'))
        (first | assumption | exact hid (Below.drew (Hid.out (by assumption))) | exact hid (Below.trans (Hid.out (by assumption)) (hbo.mono (Below.size (Hid.out (by assumption))))))
        (first
          | (go_at_call 68; ((with_reducible refine (HX.out.c1 _ ?_).mono ?_); (first | exact Hid.out (by assumption) | exact Below.drew (Hid.out (by assumption))); rintro e w8 ⟨v1, rfl, hR1, hbo⟩))
          | (go_at_call 68; try rw [E2.out]; try rw [show T - (n + 4) = 0 by omega]; ((with_reducible refine (HC2.out _ ?_).mono ?_); (first | exact Hid.out (by assumption) | exact Below.drew (Hid.out (by assumption))); rintro e w9 ⟨v2, rfl, hR2, hbo⟩)))
      rename_i hLast2
      go_wp2
      refine bodyPost_ret (results_tmp3 rfl _ _ _) rfl ?_
      have e : q = .whole x r := by rw [hq.out]; simp
      rw [e]
      exact ⟨v1, v2, rfl, (hR1.out.keep hbo hR1.out.block_lt).le hb.size, hR2.out.le hb.size, hb.trans (hLast2.out.mono hb.size)⟩

theorem refNext_any (v : Value) (l : List UInt8) (hlen : l.length ≤ 1000000) (w : World) (h : SlA w v l) :
    Calls Tryz.prog 79 #[v] w (RxEnd w (nextM l)) := by
  have HO := open_any v l hlen w h
  have HT := refTake_any v l hlen w h
  obtain ⟨A, c, rfl, h2, h3, h4, h5⟩ := h
  unfold nextM
  by_cases ho : openB l = true
  · rw [if_pos ho]
    rw [ho] at HO
    exact rx_open _ _ _ w HO
  · rw [if_neg ho]
    have ho' : openB l = false := by simpa using ho
    rw [ho'] at HO
    cases hk : tk l with
    | none =>
      rw [hk] at HT
      exact rx_none _ _ _ w HO HT
    | some p =>
      obtain ⟨n, t⟩ := p
      rw [hk] at HT
      obtain ⟨k, k1, k2, k3, ht, hn⟩ := tkGo_rest 9 0 l n t hk
      have hn63 : n < 9223372036854775808 := Nat.lt_of_lt_of_le hn (Nat.pow_le_pow_right (by decide) k2 : 128 ^ k ≤ 128 ^ 9)
      have htl : t.length ≤ 1000000 := by rw [ht, List.length_drop]; omega
      have HL : Calls Tryz.prog 43 #[.slice A l.length c] w fun e w' => ∃ A2 c2, e = .returned (.tuple #[.int .i64 (n : Int), .slice A2 t.length c2, .bool true]) ∧ Below w.heap.size w w' := by
        refine HT.mono ?_
        rintro e w' ⟨v, rfl, hR, hb⟩
        obtain ⟨A2, c2, rfl, _⟩ := hR.sla
        exact ⟨A2, c2, rfl, hb⟩
      simp only
      by_cases hg : 65536 < n
      · rw [if_pos hg]
        exact rx_less _ _ _ n t.length hn63 _ (.inl ⟨hg, rfl⟩) w HO HL
      · rw [if_neg hg]
        by_cases hs : t.length < n + 4
        · rw [if_pos hs]
          exact rx_less _ _ _ n t.length hn63 _ (.inr ⟨by omega, hs, rfl⟩) w HO HL
        · rw [if_neg hs]
          have hx : (t.take n).length = n := by rw [List.length_take]; omega
          refine rx_full A l.length c n t.length (by omega) (by omega) ((sumN (t.take n) : Nat) : Int) (decide (byW 4 (sumN (t.take n)) = (t.drop n).take 4)) (t.take n) (t.drop (n + 4)) (byW 4 (sumN (t.take n))) _ ?_ w HO (HT.mono ?_)
          · unfold Hid
            by_cases hd : byW 4 (sumN (t.take n)) = (t.drop n).take 4
            · rw [if_pos hd, decide_eq_true hd, if_pos rfl]
            · rw [if_neg hd, decide_eq_false hd]; rfl
          · rintro e w' ⟨v, rfl, hR, hb⟩
            have hR : Row w' w.heap.size v t := hR
            obtain ⟨g, cap, rfl, _, _, h6, h7⟩ := hR.form (by omega)
            have hh : Holds w' g 0 t := fun i hi => by rw [Nat.zero_add]; exact h7 i hi
            obtain ⟨A', c', e', _, h8, _⟩ := hR.sla
            injection e' with _ _ e3
            have hcm : cap ≤ 9223372036854775807 := by rw [e3]; exact h8
            have q1 := sla_part h6 hcm hh 0 n (by omega)
            have q2 := sla_part h6 hcm hh n 4 (by omega)
            have q3 := sla_part h6 hcm hh (n + 4) (t.length - (n + 4)) (by omega)
            simp only [Nat.zero_add, Nat.sub_zero, List.drop_zero] at q1 q2 q3
            have er : (t.drop (n + 4)).take (t.length - (n + 4)) = t.drop (n + 4) := List.take_of_length_le (by rw [List.length_drop]; omega)
            rw [er] at q3
            refine ⟨g, cap, rfl, ⟨h6, hcm⟩, hb, ⟨?_, ?_, ?_, ?_, ?_, ?_⟩⟩
            · exact fun W hW => refSum_any _ (t.take n) (by omega) W (q1.below hW)
            · exact fun W => (four_any _ (sumN_lt _) W).mono fun e w2 ⟨v', he, hR', hb'⟩ => ⟨v', he, hR'.sla, hb'⟩
            · exact fun W v' hW hv => same_sla v' _ _ _ (by rw [byW_len]; omega) W hv (q2.below hW)
            · exact fun W hW => (copy_any _ (t.take n) (by omega) W (q1.below hW)).mono fun e w2 ⟨v', he, hR', hb'⟩ => ⟨v', he, hR'.le hW.size, hb'⟩
            · exact fun _ W hW => (copy_any _ (t.drop (n + 4)) (by rw [List.length_drop]; omega) W (q3.below hW)).mono fun e w2 ⟨v', he, hR', hb'⟩ => ⟨v', he, hR'.le hW.size, hb'⟩
            · intro hc W hW
              have e0 : t.drop (n + 4) = [] := List.drop_eq_nil_of_le (by omega)
              rw [e0]
              exact (copy_any _ [] (by simp) W ⟨_, 0, rfl, by simp, by omega, fun h => absurd h (by simp), fun h => by cases h⟩).mono fun e w2 ⟨v', he, hR', hb'⟩ => ⟨v', he, hR'.le hW.size, hb'⟩
end Go.Proofs.YtofkfafdodhmdaaGreatDoor

/- The document's All at any bytes, over lists in memory. Conditions: the slice holds its bytes, a million at most. -/
namespace Go.Proofs.YtofkfafdodhmdaaGreatDoor
open Go.RowKit

theorem RowL.new (w : World) (B : Nat) (hB : B ≤ w.heap.size) : RowL (w.alloc (.cells #[] 25)) B (.slice (some ⟨w.heap.size, 0, Option.none⟩) 0 0) [] :=
  ⟨[], ⟨rfl, .inr ⟨w.heap.size, 0, #[], rfl, hB, heap_alloc_new w _, Nat.le_refl _, by unfold maxLen; simp, by simp, by simp⟩⟩, fun i x h => by simp at h⟩

section
variable {ops : Array Oper} {rest : List Oper} {o : Oper} {a : Act} {Q : Exit → Act → World → Prop}
/-- append of one row to a list of the call's own; every row of the call's own stands. -/
theorem wpList_append_row2 (hgd : o.guard = Option.none) (s x : Operand)
    (ho : o.op = .call { callee := .builtin .append, args := #[s, x], argTypes := #[47, 47] })
    (w : World) (base : Nat) (v : Value) (xs : List (List UInt8)) (hs : a.eval s = v) (hown : RowL w base v xs)
    (G : Nat) (c : Nat) (u : Value) (y : List UInt8) (hx : a.eval x = .slice (some ⟨G, 0, Option.none⟩) 1 c) (hc : w.cell? ⟨G, 0, Option.none⟩ = some u) (hu : Row w base u y)
    (hlen : xs.length ≤ 1000000) (hbase : base ≤ w.heap.size)
    (h : ∀ v' w', RowL w' base v' (xs ++ [y]) → Below base w w' → (∀ q z, Row w base q z → Row w' base q z) → wpList Tryz.prog ops Q rest (a.put o.dst v') w') : wpList Tryz.prog ops Q (o :: rest) a w := by
  obtain ⟨i0, hi, hz0, hz1, hz2⟩ := info_parts info_row
  obtain ⟨vs, how, hr⟩ := hown
  have hvl : vs.length = xs.length := by have := how.1; omega
  refine wpList_append_own w hgd s x 47 ho base 25 i0 (.slice Option.none 0 0) 1 24 Tryz.underlying47 hi hz0 hz1 hz2 rfl (by decide) v xs.length vs hs how ⟨G, 0, Option.none⟩ 1 c [u] hx rfl ?_ ?_ (by unfold maxLen; omega) (by omega) hbase ?_
  · intro j e he
    match j, he with
    | 0, he => simp at he; subst he; rw [add_zero_off]; exact hc
    | j + 1, he => simp at he
  · intro e he
    have : e = u := by simpa using he
    subst this
    rcases hu.2 with ⟨rfl, _⟩ | ⟨g, cap, cur, rfl, _⟩ <;> rfl
  · intro v' w' h1 h2 _
    refine h v' w' ⟨vs ++ [u], by rw [List.length_append]; exact h1, fun i x hx => ?_⟩ ((Below.refl _ _).grown h2 hbase fun k hk => (World.ownsRow.lt how k hk).1) (fun q z hq => hq.grown h2 (row_ne_list hq how))
    by_cases hi' : i < xs.length
    · rw [List.getElem?_append_left hi'] at hx
      obtain ⟨u', hu', hR⟩ := hr i x hx
      exact ⟨u', by rw [List.getElem?_append_left (by omega)]; exact hu', hR.grown h2 (row_ne_list hR how)⟩
    · rw [List.getElem?_append_right (by omega)] at hx
      have hi0 : i - xs.length = 0 := by
        rcases Nat.eq_zero_or_pos (i - xs.length) with e | e
        · exact e
        · rw [List.getElem?_eq_none (by simp; omega)] at hx; cases hx
      rw [hi0] at hx
      have ey : y = x := by simpa using hx
      subst ey
      exact ⟨u, by rw [List.getElem?_append_right (by omega), hvl, hi0]; rfl, hu.grown h2 (row_ne_list hu how)⟩
end

def lenOf : Value → Nat
  | .slice _ n _ => n
  | _ => 0

/-- What is left: as it came, or a row of the call's own. -/
def RestI (w wr : World) (v : Value) (t : List UInt8) : Prop := SlA w v t ∨ Row wr w.heap.size v t
theorem RestI.sla {w wr : World} {v : Value} {t : List UInt8} (h : RestI w wr v t) (hb : Below w.heap.size w wr) : SlA wr v t := by
  rcases h with h | h
  · exact h.below hb
  · exact h.sla

def QInv (w : World) (l : List UInt8) (vo vr : Value) (wr : World) : Prop :=
  ∃ (k : Nat) (xs : List (List UInt8)) (A' : Option Addr) (c' : Nat), k ≤ l.length ∧ vr = .slice A' (l.length - k) c' ∧ Hid (RestI w wr vr (l.drop k)) ∧ Hid (allF l = (xs ++ (allF (l.drop k)).1, k + (allF (l.drop k)).2.1, (allF (l.drop k)).2.2) ∧ xs.length ≤ k) ∧ RowL wr w.heap.size vo xs ∧ Below w.heap.size w wr

set_option maxRecDepth 100000 in
set_option maxHeartbeats 4000000 in
theorem refAll_any (v : Value) (l : List UInt8) (hlen : l.length ≤ 1000000) (w : World) (h : SlA w v l) :
    Calls Tryz.prog 45 #[v] w (AEnd w (allF l)) := by
  have HV := hid h
  have HK : Hid (∀ (W : World) (u : Value) (t : List UInt8), t.length ≤ 1000000 → SlA W u t → Calls Tryz.prog 79 #[u] W (RxEnd W (nextM t))) := fun W u t ht hu => refNext_any u t ht W hu
  obtain ⟨A, c, rfl, _⟩ := h
  obtain ⟨m, hm⟩ : ∃ m, l.length = m := ⟨_, rfl⟩
  have HM := hid hm
  rw [hm] at hlen HV
  rw [hm]
  clear hm
  go_enter Tryz.func45, Tryz.ntmps45
  go_wp2
  go_loopw [5, 6] (fun vo vr wr => QInv w l vo vr wr) (fun _ vr _ => lenOf vr)
  case atStart => exact ⟨0, [], A, c, Nat.zero_le _, by rw [HM.out]; rfl, .inl HV.out, ⟨by simp, Nat.le_refl _⟩, RowL.new w _ (Nat.le_refl _), below_new w _⟩
  case round =>
    obtain ⟨k, xs, A', c', hk, rfl, HI, HE, hL, hb⟩ := hrel
    rw [HM.out] at hk
    have HI : Hid (RestI w wr (.slice A' (m - k) c') (l.drop k)) := by have h := HI; rw [HM.out] at h; exact h
    rw [HM.out]
    obtain ⟨z, hz⟩ : ∃ z, m - k = z := ⟨_, rfl⟩
    rw [hz] at HI ⊢
    obtain ⟨A5, c5, e5⟩ := hL.len
    subst e5
    have HL := hid hL
    have hdl : (l.drop k).length = z := by rw [List.length_drop, HM.out]; exact hz
    have HZ : Hid ((m : Int) - (z : Int) = (k : Int)) := by unfold Hid; omega
    by_cases hlt : 0 < z
    · have hLk := HK.out wr (.slice A' z c') (l.drop k) (by rw [hdl]; omega) (HI.out.sla hb)
      cases hn : nextM (l.drop k) with
      | torn =>
        rw [hn] at hLk
        have hLk := hid hLk
        clear hL
        go_wp2_with (go_at_call 79; refine hLk.out.mono ?_; rintro e w1 ⟨rfl, hb1⟩)
        refine bodyPost_ret (results_tmp3 rfl _ _ _) rfl ?_
        have hne : l.drop k ≠ [] := fun e => by rw [e] at hdl; simp at hdl; omega
        have he := HE.out.1
        rw [allF_torn hn hne, List.append_nil, Nat.add_zero] at he
        rw [he]
        exact ⟨_, congrArg (fun y => Ending.returned (.tuple #[.slice A5 xs.length c5, .int .i64 y, .int .i64 1])) HZ.out, HL.out.below hb1, hb.trans (hb1.mono hb.size)⟩
      | bad =>
        rw [hn] at hLk
        have hLk := hid hLk
        clear hL
        go_wp2_with (go_at_call 79; refine hLk.out.mono ?_; rintro e w1 ⟨rfl, hb1⟩)
        refine bodyPost_ret (results_tmp3 rfl _ _ _) rfl ?_
        have hne : l.drop k ≠ [] := fun e => by rw [e] at hdl; simp at hdl; omega
        have he := HE.out.1
        rw [allF_bad hn hne, List.append_nil, Nat.add_zero] at he
        rw [he]
        exact ⟨_, congrArg (fun y => Ending.returned (.tuple #[.slice A5 xs.length c5, .int .i64 y, .int .i64 2])) HZ.out, HL.out.below hb1, hb.trans (hb1.mono hb.size)⟩
      | whole x r =>
        rw [hn] at hLk
        obtain ⟨s, hs⟩ : ∃ s, (l.drop k).length - r.length = s := ⟨_, rfl⟩
        obtain ⟨j, j1, j2, j3, j4, j5, _⟩ := next_less hn
        have hrl : r.length = (l.drop k).length - (j + x.length + 4) := by rw [j4, List.length_drop]
        have hsm : k + s ≤ m := by omega
        have hs1 : 1 ≤ s := by omega
        have hrz : r.length < z := by omega
        have hrm : m - (k + s) = r.length := by omega
        have er : Hid (l.drop (k + s) = r) := by unfold Hid; rw [j4, List.drop_drop]; congr 1; omega
        have HN : Hid (allF l = ((xs ++ [x]) ++ (allF (l.drop (k + s))).1, (k + s) + (allF (l.drop (k + s))).2.1, (allF (l.drop (k + s))).2.2) ∧ (xs ++ [x]).length ≤ k + s) := by
          have he := HE.out
          refine ⟨?_, by rw [List.length_append, List.length_singleton]; omega⟩
          rw [he.1, allF_whole hn, hs, er.out]
          simp only [List.append_assoc, List.singleton_append, Prod.mk.injEq, true_and, and_true]
          omega
        have hXL : xs.length ≤ 1000000 := by have := HE.out.2; omega
        have HXL := hid hXL
        have HRM := hid hrm
        have HSM := hid hsm
        have HRZ := hid hrz
        have hbs := hb.size
        have hLk := hid hLk
        clear hL hs hn hXL j1 j2 j3 j4 j5 hdl hrl hrm hsm hz hrz
        go_wp2_with (first
          | (go_at_call 79; refine hLk.out.mono ?_; rintro e w1 ⟨v1, v2, rfl, hR1, hR2, hb1⟩; have HR1 := hid hR1; have HR2 := hid hR2; obtain ⟨A1, c1, rfl, _⟩ := hR1.sla; obtain ⟨A2, c2, rfl, _⟩ := hR2.sla)
          | (at_builtin; refine wpList_append_row2 rfl (.tmp 30) (.tmp 32) rfl _ w.heap.size _ xs rfl ((HL.out.below hb1).below (below_new w1 _)) w1.heap.size 1 _ x rfl (cell_one _ _ _) ((HR1.out.le hbs).alloc _) HXL.out (by have := hb1.size; simp; omega) ?_; intro v' w' hL' hb' hk'))
        go_roundw
        case rel =>
          refine ⟨k + s, xs ++ [x], A2, c2, by rw [HM.out]; exact HSM.out, by rw [HM.out, HRM.out], ?_, HN.out, hL', ((hb.trans (hb1.mono hbs)).alloc (by have := hb1.size; omega) _).trans hb'⟩
          rw [er.out]
          exact .inr (hk' _ _ ((HR2.out.le hbs).alloc _))
        case measure => exact HRZ.out
    · have hz0 : z = 0 := by omega
      subst hz0
      go_wp2
      refine bodyPost_ret (results_tmp3 rfl _ _ _) rfl ?_
      have hkm : k = l.length := by have := HM.out; omega
      have he := HE.out.1
      rw [hkm, List.drop_length, allF_nil, List.append_nil, Nat.add_zero] at he
      rw [he, ← HM.out]
      exact ⟨_, rfl, hL, hb⟩
end Go.Proofs.YtofkfafdodhmdaaGreatDoor
