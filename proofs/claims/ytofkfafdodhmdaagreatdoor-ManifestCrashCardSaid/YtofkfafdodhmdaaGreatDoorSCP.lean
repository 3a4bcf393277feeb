/- The document's small functions at any bytes: CopyBytes, Num, Sum, four, open. Conditions: the slices hold their bytes, a million at most. -/
import Derived.Test.YtofkfafdodhmdaaGreatDoorNH
import Derived.Test.YtofkfafdodhmdaaGreatDoorNE
namespace Go.Proofs.YtofkfafdodhmdaaGreatDoor
open Go.RowKit

set_option maxRecDepth 100000 in
set_option maxHeartbeats 2000000 in
theorem refNum_any (n : Nat) (hn : n < 9223372036854775808) (w : World) :
    Calls Tryz.prog 41 #[.int .i64 n] w fun e w' => ∃ v, e = .returned v ∧ Row w' w.heap.size v (numW n) ∧ Below w.heap.size w w' := by
  have hlen := hid (numW_len9 n hn)
  have HR := hid (empty_row w w.heap.size (Nat.le_refl _))
  obtain ⟨y, hy⟩ : ∃ y : Int, (n : Int) = y := ⟨_, rfl⟩
  have HY := hid (And.intro hy.symm hn)
  rw [hy]
  have H0 : 0 ≤ y := by omega
  clear hy hn
  go_enter Tryz.func41, Tryz.ntmps41
  go_wp2
  go_loopw [0, 3] (fun vn va wr => ∃ (m : Nat) (x : Int) (pre : List UInt8), Hid (x = (m : Int) ∧ m < 9223372036854775808) ∧ 0 ≤ x ∧ vn = .int .i64 x ∧ Hid (numW n = pre ++ numW m) ∧ Row wr w.heap.size va pre ∧ Below w.heap.size w wr) (fun vn _ _ => (intOf vn).toNat)
  case atStart => exact ⟨n, y, [], HY, H0, rfl, rfl, HR.out, below_new w _⟩
  case round =>
    obtain ⟨m, x, pre, HX, h0, rfl, HP, hR, hb⟩ := hrel
    have hpl : pre.length ≤ 9 := by have h1 := hlen.out; have h2 := congrArg List.length HP.out; rw [List.length_append] at h2; omega
    have HPL := hid hpl
    have HR2 := hid hR
    have hbs := hb.size
    clear hR hpl
    by_cases h128 : x < 128
    · have HE : Hid (x = ((UInt8.ofNat m).toNat : Int)) := by unfold Hid; have := HX.out; rw [UInt8.toNat_ofNat']; omega
      have HN : Hid (numW m = [UInt8.ofNat m]) := numW_small (by have := HX.out; omega)
      go_wp2_with (at_builtin; refine wpList_append_bytes rfl (.tmp 19) (.tmp 22) rfl _ w.heap.size _ pre rfl (HR2.out.alloc _) ⟨wr.heap.size, 0, none⟩ 1 1 [UInt8.ofNat m] rfl rfl (one_new' _ _ _ _ HE.out) (by have := HPL.out; simp only [List.length_cons, List.length_nil]; omega) (by simp; omega) ?_; intro v' w' hR' hb')
      go_ret
      refine ⟨_, rfl, ?_, (hb.alloc hbs _).trans hb'⟩
      rw [HP.out, HN.out]
      exact hR'
    · have HE : Hid (128 + x % 128 = ((UInt8.ofNat (128 + m % 128)).toNat : Int)) := by unfold Hid; have := HX.out; rw [UInt8.toNat_ofNat']; omega
      have HN : Hid (numW m = UInt8.ofNat (128 + m % 128) :: numW (m / 128)) := numW_big (by have := HX.out; omega)
      have HD : Hid (wrap64 (x.tdiv 128) = x / 128) := by
        unfold Hid
        have := HX.out
        rw [Int.tdiv_eq_ediv_of_nonneg h0]
        unfold wrap64
        omega
      go_wp2_with (at_builtin; refine wpList_append_bytes rfl (.tmp 10) (.tmp 15) rfl _ w.heap.size _ pre rfl (HR2.out.alloc _) ⟨wr.heap.size, 0, none⟩ 1 1 [UInt8.ofNat (128 + m % 128)] rfl rfl (one_new' _ _ _ _ HE.out) (by have := HPL.out; simp only [List.length_cons, List.length_nil]; omega) (by simp; omega) ?_; intro v' w' hR' hb')
      go_roundw
      case rel =>
        refine ⟨m / 128, x / 128, pre ++ [UInt8.ofNat (128 + m % 128)], ?_, by omega, congrArg (Value.int .i64) HD.out, ?_, hR', (hb.alloc hbs _).trans hb'⟩
        · unfold Hid; have := HX.out; omega
        · unfold Hid; rw [HP.out, HN.out, List.append_assoc]; rfl
      case measure => rw [HD.out]; simp [intOf]; omega

set_option maxRecDepth 100000 in
set_option maxHeartbeats 2000000 in
theorem refSum_any (v : Value) (l : List UInt8) (hl : l.length ≤ 1000000) (w : World) (h : SlA w v l) :
    Calls Tryz.prog 73 #[v] w fun e w' => e = .returned (.int .i64 ((sumN l : Nat) : Int)) ∧ w' = w := by
  obtain ⟨A, c, rfl, _, _, hh, _⟩ := h
  have HH := hid hh
  obtain ⟨m, hm⟩ : ∃ m, l.length = m := ⟨_, rfl⟩
  have hl2 : m ≤ 1000000 := by rw [← hm]; exact hl
  rw [hm]
  have HM := hid hm
  clear hm hh
  go_enter Tryz.func73, Tryz.ntmps73
  go_wp2
  go_loopw [3, 4, 5] (fun vx vy vi wr => ∃ (k : Nat) (x y : Int), k ≤ m ∧ vi = .int .i64 k ∧ vx = .int .i64 x ∧ vy = .int .i64 y ∧ 0 ≤ x ∧ x < 65521 ∧ 0 ≤ y ∧ y < 65521 ∧ Hid (x = (lo (l.take k) : Nat) ∧ y = (hi (l.take k) : Nat)) ∧ wr = w) (fun _ _ vi _ => m - (intOf vi).toNat)
  case atStart => exact ⟨0, 1, 0, Nat.zero_le _, rfl, rfl, rfl, by omega, by omega, by omega, by omega, ⟨rfl, rfl⟩, rfl⟩
  case round =>
    obtain ⟨k, x, y, hk, rfl, rfl, rfl, x0, x1, y0, y1, HX, rfl⟩ := hrel
    by_cases hlt : k < m
    · have hkl : k < l.length := by rw [HM.out]; exact hlt
      obtain ⟨b, off, rfl, hc⟩ := HH.out (by omega)
      have hb := hc k hkl
      rw [List.getD_eq_getElem?_getD, List.getElem?_eq_getElem hkl, Option.getD_some] at hb
      obtain ⟨z, hz⟩ : ∃ z : Int, (((l[k]).toNat : Nat) : Int) = z := ⟨_, rfl⟩
      rw [hz] at hb
      have z0 : 0 ≤ z := by omega
      have z1 : z < 256 := by have := u8_lt l[k]; omega
      have HN : Hid ((x + z) % 65521 = (lo (l.take (k + 1)) : Nat) ∧ (y + (x + z) % 65521) % 65521 = (hi (l.take (k + 1)) : Nat)) := by
        have h3 := HX.out
        rw [take_next l k hkl]
        have e1 := lo_app (l.take k) [l[k]]
        have e2 := hi_app (l.take k) [l[k]]
        simp only [un] at e1 e2
        refine ⟨by rw [e1]; omega, by rw [e2]; omega⟩
      clear hc hz
      go_wp2
      go_roundw
      case rel => exact ⟨k + 1, _, _, by omega, by go_num, rfl, rfl, by omega, by omega, by omega, by omega, HN.out, trivial⟩
      case measure => simp [intOf]; omega
    · go_wp2
      go_ret
      have h3 := HX.out
      rw [List.take_of_length_le (by have := HM.out; omega)] at h3
      rw [sumN_eq]
      refine ⟨?_, rfl⟩
      show Ending.returned (.int .i64 (y * 65536 + x)) = _
      rw [h3.1, h3.2]
      simp

set_option maxRecDepth 100000 in
set_option maxHeartbeats 1000000 in
theorem four_any (s : Nat) (hs : s < 4294967296) (w : World) :
    Calls Tryz.prog 72 #[.int .i64 s] w fun e w' => ∃ v, e = .returned v ∧ Row w' w.heap.size v (byW 4 s) ∧ Below w.heap.size w w' := by
  obtain ⟨S, hS⟩ : ∃ S : Int, (s : Int) = S := ⟨_, rfl⟩
  have HE := hid (And.intro hS hs)
  have s0 : 0 ≤ S := by omega
  have s1 : S < 4294967296 := by omega
  rw [hS]
  clear hS hs
  go_enter Tryz.func72, Tryz.ntmps72
  go_wp2
  go_ret
  refine ⟨_, rfl, ?_, below_new w _⟩
  refine seal_row w w.heap.size (Nat.le_refl _) s _ _ _ _ ?_ ?_ ?_ ?_ <;> (have := HE.out; rw [UInt8.toNat_ofNat']; omega)

set_option maxRecDepth 100000 in
set_option maxHeartbeats 1000000 in
theorem open_any (v : Value) (l : List UInt8) (hl : l.length ≤ 1000000) (w : World) (h : SlA w v l) :
    Calls Tryz.prog 105 #[v] w fun e w' => e = .returned (.bool (openB l)) ∧ w' = w := by
  obtain ⟨A, c, rfl, _, _, hh, _⟩ := h
  have HH := hid hh
  obtain ⟨m, hm⟩ : ∃ m, l.length = m := ⟨_, rfl⟩
  rw [hm] at hl ⊢
  have HM := hid hm
  have HO : Hid (openB l = (decide ((m : Int) ≤ 8) && allBig l)) := by
    unfold Hid openB allBig
    rw [hm, show decide (m ≤ 8) = decide ((m : Int) ≤ 8) from decide_eq_decide.2 (by omega)]
  clear hm hh
  go_enter Tryz.func105, Tryz.ntmps105
  go_wp2
  go_loopw [3] (fun vi wr => ∃ k : Nat, k ≤ m ∧ vi = .int .i64 k ∧ Hid (allBig (l.take k) = true) ∧ wr = w) (fun vi _ => m - (intOf vi).toNat)
  case atStart => exact ⟨0, by omega, rfl, rfl, rfl⟩
  case round =>
    obtain ⟨k, hk, rfl, HA, rfl⟩ := hrel
    by_cases hlt : k < m
    · have hkl : k < l.length := by rw [HM.out]; exact hlt
      obtain ⟨b, off, rfl, hc⟩ := HH.out (by omega)
      have hb := hc k hkl
      rw [List.getD_eq_getElem?_getD, List.getElem?_eq_getElem hkl, Option.getD_some] at hb
      obtain ⟨x, hx⟩ : ∃ x : Int, (((l[k]).toNat : Nat) : Int) = x := ⟨_, rfl⟩
      rw [hx] at hb
      have HX := hid hx
      clear hx hc
      by_cases hx128 : x < 128
      · have HB : Hid (allBig l = false) := allBig_no hkl (by have := HX.out; omega)
        go_wp2
        go_ret
        rw [HO.out, HB.out, Bool.and_false]
        exact ⟨rfl, rfl⟩
      · go_wp2
        go_roundw
        case rel =>
          refine ⟨k + 1, by omega, by go_num, ?_, trivial⟩
          unfold Hid
          rw [allBig_take hkl, HA.out, Bool.true_and, decide_eq_true_eq]
          have := HX.out
          omega
        case measure => simp [intOf]; omega
    · have HB : Hid (allBig l = true) := by
        have h1 := HA.out
        rwa [List.take_of_length_le (by have := HM.out; omega)] at h1
      go_wp2
      go_ret
      rw [HO.out, HB.out, Bool.and_true]
      exact ⟨rfl, rfl⟩
end Go.Proofs.YtofkfafdodhmdaaGreatDoor
