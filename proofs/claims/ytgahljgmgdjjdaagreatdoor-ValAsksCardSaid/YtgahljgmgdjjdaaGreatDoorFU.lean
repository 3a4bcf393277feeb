/- The document's Show (package joistref01), for every int. Conditions: ints of 64 bits. -/
import Derived.Test.YtgahljgmgdjjdaaGreatDoorFT
namespace Go.Proofs.YtgahljgmgdjjdaaGreatDoor
open Go.RowKit

def hexConst : ByteArray := ⟨#[48, 49, 50, 51, 52, 53, 54, 55, 56, 57, 97, 98, 99, 100, 101, 102]⟩
theorem hexConst_at : ∀ d : Nat, d < 16 → (hexConst.extract d (d + 1)).data.toList = [dg d] := by decide +kernel

theorem fixW_at (k x : Nat) : ∀ j, j < k → (fixW k x)[j]? = some (dg (x / 16 ^ (k - 1 - j) % 16)) := by
  induction k with
  | zero => intro j h; omega
  | succ k ih =>
    intro j h
    rw [fixW_cons]
    cases j with
    | zero => simp
    | succ j =>
      rw [List.getElem?_cons_succ, ih j (by omega), show k + 1 - 1 - (j + 1) = k - 1 - j by omega]

theorem take_next (x j : Nat) (h : j < 16) : (⟨(120 :: (fixW 16 x).take j).toArray⟩ : ByteArray) ++ hexConst.extract (x / 16 ^ (15 - j) % 16) (x / 16 ^ (15 - j) % 16 + 1) = ⟨(120 :: (fixW 16 x).take (j + 1)).toArray⟩ := by
  apply ByteArray.ext
  rw [ByteArray.data_append]
  have e := hexConst_at (x / 16 ^ (15 - j) % 16) (by omega)
  have e2 : (hexConst.extract (x / 16 ^ (15 - j) % 16) (x / 16 ^ (15 - j) % 16 + 1)).data = [dg (x / 16 ^ (15 - j) % 16)].toArray := by rw [← e]
  rw [e2]
  have h1 := fixW_at 16 x j h
  rw [List.take_add_one, h1]
  simp

theorem rem_at (x k : Nat) : ((x : Int) / 2 ^ (4 * k)).tmod 16 = ((x / 16 ^ k % 16 : Nat) : Int) := by
  have e2 : ((2 : Int) ^ (4 * k)) = ((16 ^ k : Nat) : Int) := by
    have e : (2 : Nat) ^ (4 * k) = 16 ^ k := by rw [Nat.pow_mul]
    rw [← e, Int.natCast_pow]; rfl
  rw [e2, Int.tmod_eq_emod_of_nonneg (Int.ediv_nonneg (Int.natCast_nonneg _) (Int.natCast_nonneg _)), Int.natCast_emod, Int.natCast_ediv]
  rfl

def SInv (x : Nat) (vs vi : Value) : Prop :=
  ∃ (j : Nat) (i : Int) (s : ByteArray), j ≤ 16 ∧ i = 15 - j ∧ vs = .string s ∧ vi = .int .i64 i ∧ s = ⟨(120 :: (fixW 16 x).take j).toArray⟩ ∧ s.size ≤ 17

set_option maxHeartbeats 1000000 in
theorem refShow_hex {n : Int} (hr : rightB n = true) (x : Nat) (hx : IntKind.u64.wrap n = (x : Int)) (hx64 : x < 18446744073709551616)
    (q1 : (n == 9221120237041090560) = false) (q2 : (n == 9218868437227405312) = false) (q3 : (n == -4503599627370496) = false) (q4 : (n == 0) = false) (q5 : (n == -9223372036854775808) = false) (w : World) :
    Calls Tryz.prog 43 #[.int .i64 n] w fun e w' => e = .returned (.string ⟨(120 :: fixW 16 x).toArray⟩) ∧ w = w' := by
  have HRt : Hid (∀ W, Calls Tryz.prog 31 #[.int .i64 n] W fun e w' => e = .returned (.bool true) ∧ W = w') := fun W => by rw [← hr]; exact refRight_any n W
  have HX := hid hx64
  clear hr hx64
  go_enter Tryz.func43, Tryz.ntmps43
  go_wp2_with (go_at_call 31; refine (HRt.out _).mono ?_; rintro e w' ⟨rfl, rfl⟩)
  go_loop [3, 4] (fun vs vi => SInv x vs vi) (fun _ vi => (intOf vi + 1).toNat)
  case atStart => exact ⟨0, 15, _, by omega, rfl, rfl, rfl, rfl, by decide⟩
  case round =>
    obtain ⟨j, i, s, hj, hi, rfl, rfl, hs, hsz⟩ := hrel
    by_cases hlt : j < 16
    · obtain ⟨k, rfl⟩ : ∃ k : Nat, i = k := ⟨15 - j, by omega⟩
      have hk : k ≤ 15 := by omega
      have HJ : Hid (k + j = 15) := hid (by omega)
      have HS := hid hs
      clear hs hi hlt
      obtain ⟨d, hd⟩ : ∃ d, x / 16 ^ k % 16 = d := ⟨_, rfl⟩
      have hrem : ((x : Int) / 2 ^ (4 * k)).tmod 16 = (d : Int) := by rw [← hd]; exact rem_at x k
      have hd15 : d ≤ 15 := by omega
      have HDD := hid hd
      clear hd
      go_wp2
      go_round
      case rel =>
        have hjk := HJ.out
        have hs := HS.out
        have hdd := HDD.out
        have hk' : 15 - j = k := by omega
        have hn := take_next x j (by omega)
        rw [hk', hdd] at hn
        refine ⟨j + 1, (k : Int) - 1, _, by omega, by omega, rfl, rfl, ?_, ?_⟩
        · rw [← hn, hs]; rfl
        · rw [hs]
          show ((⟨(120 :: (fixW 16 x).take j).toArray⟩ : ByteArray) ++ hexConst.extract d (d + 1)).size ≤ 17
          rw [hn]
          show (120 :: (fixW 16 x).take (j + 1)).toArray.size ≤ 17
          rw [List.size_toArray, List.length_cons, List.length_take]
          omega
      case measure => simp [intOf]
    · obtain rfl : j = 16 := by omega
      obtain rfl : i = -1 := by omega
      have HS : Hid (s = ⟨(120 :: fixW 16 x).toArray⟩) := hid (by rw [hs, List.take_of_length_le (by rw [fixW_len]; exact Nat.le_refl _)])
      clear hs
      go_wp2
      go_ret
      exact ⟨congrArg (fun s => Ending.returned (Value.string s)) HS.out, rfl⟩

set_option maxHeartbeats 1000000 in
theorem refShow_nan (w : World) : Calls Tryz.prog 43 #[.int .i64 9221120237041090560] w fun e w' => e = .returned (.string ⟨nanT.toArray⟩) ∧ w = w' := by
  go_enter Tryz.func43, Tryz.ntmps43
  go_wp2
  go_ret
  exact ⟨rfl, rfl⟩
set_option maxHeartbeats 1000000 in
theorem refShow_inf (w : World) : Calls Tryz.prog 43 #[.int .i64 9218868437227405312] w fun e w' => e = .returned (.string ⟨infT.toArray⟩) ∧ w = w' := by
  go_enter Tryz.func43, Tryz.ntmps43
  go_wp2
  go_ret
  exact ⟨rfl, rfl⟩
set_option maxHeartbeats 1000000 in
theorem refShow_minf (w : World) : Calls Tryz.prog 43 #[.int .i64 (-4503599627370496)] w fun e w' => e = .returned (.string ⟨minfT.toArray⟩) ∧ w = w' := by
  go_enter Tryz.func43, Tryz.ntmps43
  go_wp2
  go_ret
  exact ⟨rfl, rfl⟩
set_option maxHeartbeats 1000000 in
theorem refShow_zero (w : World) : Calls Tryz.prog 43 #[.int .i64 0] w fun e w' => e = .returned (.string ⟨zeroT.toArray⟩) ∧ w = w' := by
  go_enter Tryz.func43, Tryz.ntmps43
  go_wp2
  go_ret
  exact ⟨rfl, rfl⟩
set_option maxHeartbeats 1000000 in
theorem refShow_mzero (w : World) : Calls Tryz.prog 43 #[.int .i64 (-9223372036854775808)] w fun e w' => e = .returned (.string ⟨mzeroT.toArray⟩) ∧ w = w' := by
  go_enter Tryz.func43, Tryz.ntmps43
  go_wp2
  go_ret
  exact ⟨rfl, rfl⟩

set_option maxHeartbeats 1000000 in
theorem refShow_no {n : Int} (hr : rightB n = false) (q1 : (n == 9221120237041090560) = false) (q2 : (n == 9218868437227405312) = false) (q3 : (n == -4503599627370496) = false) (q4 : (n == 0) = false) (q5 : (n == -9223372036854775808) = false) (w : World) :
    Calls Tryz.prog 43 #[.int .i64 n] w fun e w' => e = .returned (.string ⟨#[63]⟩) ∧ w = w' := by
  go_enter Tryz.func43, Tryz.ntmps43
  go_wp2_with (go_at_call 31; refine (refRight_any n _).mono ?_; rintro e w' ⟨rfl, rfl⟩)
  go_ret
  exact ⟨rfl, rfl⟩

/-- The document's Show: the text of every int, as float.Show tells it. -/
theorem refShow_any {n : Int} (h : inI n) (w : World) :
    Calls Tryz.prog 43 #[.int .i64 n] w fun e w' => e = .returned (.string ⟨(showT n).toArray⟩) ∧ w = w' := by
  have f : ∀ {a : Int}, ¬ n = a → (n == a) = false := fun g => by simpa using g
  by_cases e1 : n = 9221120237041090560
  · subst e1; exact refShow_nan w
  by_cases e2 : n = 9218868437227405312
  · subst e2
    have : showT 9218868437227405312 = infT := by decide +kernel
    rw [this]; exact refShow_inf w
  by_cases e3 : n = -4503599627370496
  · subst e3
    have : showT (-4503599627370496) = minfT := by decide +kernel
    rw [this]; exact refShow_minf w
  by_cases e4 : n = 0
  · subst e4; exact refShow_zero w
  by_cases e5 : n = -9223372036854775808
  · subst e5
    have : showT (-9223372036854775808) = mzeroT := by decide +kernel
    rw [this]; exact refShow_mzero w
  cases hr : rightB n
  · have : showT n = [63] := by unfold showT; rw [if_neg (by rw [hr]; decide)]
    rw [this]
    exact refShow_no hr (f e1) (f e2) (f e3) (f e4) (f e5) w
  · have : showT n = 120 :: fixW 16 (wd n) := by
      unfold showT textW
      unfold inI at h
      rw [if_pos hr]
      rw [if_neg (by unfold wd; omega), if_neg (by unfold wd; omega), if_neg (by unfold wd; omega), if_neg (by unfold wd; omega), if_neg (by unfold wd; omega)]
    rw [this]
    exact refShow_hex hr (wd n) (u64_wd n) (wd_lt n) (f e1) (f e2) (f e3) (f e4) (f e5) w

end Go.Proofs.YtgahljgmgdjjdaaGreatDoor
