/- val.Order for every two values. Conditions: the numbers are of 64 bits. -/
import Derived.Test.YtadehoibjpmhhaaGreatDoorVA
namespace Go.Proofs.YtadehoibjpmhhaaGreatDoor
open Go.RowKit

theorem cmp_int (a b : Int) (w : World) :
    Calls Tryz.prog 31 #[.int .i64 a, .int .i64 b] w fun e w' => e = .returned (.int .i64 (cmpI a b)) ∧ w = w' := by
  have hi : ∀ (x : Int) (W : World), Calls Tryz.prog 58 #[.int .i64 x] W fun e w' => e = .returned (.bool false) ∧ W = w' := by
    intro x W
    go_enter Tryz.func58, Tryz.ntmps58
    go_wp2
    go_ret
    exact ⟨rfl, rfl⟩
  go_enter Tryz.func31, Tryz.ntmps31
  go_wp2_with (go_at_call 58; refine (hi _ _).mono ?_; rintro e w' ⟨rfl, rfl⟩)
  all_goals go_ret
  · exact ⟨ret_int (show -1 = cmpI a b by rw [cmpI, if_pos (by assumption)]), rfl⟩
  · exact ⟨ret_int (show 1 = cmpI a b by rw [cmpI, if_neg (by omega), if_pos (by omega)]), rfl⟩
  · exact ⟨ret_int (show 0 = cmpI a b by rw [cmpI, if_neg (by omega), if_neg (by omega)]), rfl⟩

theorem vnum_any (k : Int) {a b : Int} (ha : inI a) (hb : inI b) (w : World) :
    Calls Tryz.prog 32 #[.int .i64 k, .int .i64 a, .int .i64 b] w fun e w' => e = .returned (.int .i64 (vNum k a b)) ∧ w = w' := by
  have HO : Hid (∀ W, Calls Tryz.prog 59 #[.int .i64 a, .int .i64 b] W fun e w' => e = .returned (.int .i64 (ordI a b)) ∧ W = w') := fun W => order_any ha hb W
  have HC : Hid (∀ W, Calls Tryz.prog 31 #[.int .i64 a, .int .i64 b] W fun e w' => e = .returned (.int .i64 (cmpI a b)) ∧ W = w') := fun W => cmp_int a b W
  clear ha hb
  unfold vNum
  by_cases h5 : k = 5
  · rw [if_pos h5]
    go_enter Tryz.func32, Tryz.ntmps32
    go_wp2_with (go_at_call 59; refine (HO.out _).mono ?_; rintro e w' ⟨rfl, rfl⟩)
    go_ret
    exact ⟨rfl, rfl⟩
  · rw [if_neg h5]
    go_enter Tryz.func32, Tryz.ntmps32
    go_wp2_with (go_at_call 31; refine (HC.out _).mono ?_; rintro e w' ⟨rfl, rfl⟩)
    go_ret
    exact ⟨rfl, rfl⟩

set_option maxHeartbeats 400000 in
/-- val.Order, for every two values. -/
theorem vorder_any (k1 k2 : Int) {n1 n2 : Int} (hn1 : inI n1) (hn2 : inI n2) (s1 s2 : ByteArray) (w : World) :
    Calls Tryz.prog 13 #[.agg #[.int .i64 k1, .int .i64 n1, .string s1], .agg #[.int .i64 k2, .int .i64 n2, .string s2]] w fun e w' =>
      e = .returned (.int .i64 (vOrd k1 n1 s1.data.toList k2 n2 s2.data.toList)) ∧ Below w.heap.size w w' := by
  have HN : Hid (∀ W, Calls Tryz.prog 32 #[.int .i64 k1, .int .i64 n1, .int .i64 n2] W fun e w' => e = .returned (.int .i64 (vNum k1 n1 n2)) ∧ W = w') := fun W => vnum_any k1 hn1 hn2 W
  have HC : Hid (∀ W, Calls Tryz.prog 31 #[.int .i64 k1, .int .i64 k2] W fun e w' => e = .returned (.int .i64 (cmpI k1 k2)) ∧ W = w') := fun W => cmp_int k1 k2 W
  have HS : Hid (∀ W, Calls Tryz.prog 33 #[.string s1, .string s2] W fun e w' => e = .returned (.int .i64 (Lib.compareBytes s1.data.toList s2.data.toList)) ∧ W = w') := fun W => (Tryz.strings_Compare s1 s2 W).mono fun _ _ ⟨he, hw⟩ => ⟨he, hw.symm⟩
  unfold vOrd
  clear hn1 hn2
  generalize vNum k1 n1 n2 = N at *
  generalize Lib.compareBytes s1.data.toList s2.data.toList = S at *
  generalize cmpI k1 k2 = K at *
  have hbw : ∀ o1 o2, Below w.heap.size w ((w.alloc o1).alloc o2) := fun o1 o2 => (below_new w o1).alloc (by simp) o2
  have HB := hid hbw
  clear hbw
  by_cases hk : k1 = k2
  · rw [if_pos hk]
    by_cases h0 : N = 0
    · rw [if_pos h0]
      have hk' : (k1 != k2) = false := by simpa using hk
      have h0' : (N != 0) = false := by simpa using h0
      clear hk h0
      go_enter Tryz.func13, Tryz.ntmps13
      go_wp2_with (first | (go_at_call 32; refine (HN.out _).mono ?_; rintro e w' ⟨rfl, rfl⟩) | (go_at_call 33; refine (HS.out _).mono ?_; rintro e w' ⟨rfl, rfl⟩))
      go_ret
      exact ⟨rfl, HB.out _ _⟩
    · rw [if_neg h0]
      have hk' : (k1 != k2) = false := by simpa using hk
      have h0' : (N != 0) = true := by simpa using h0
      clear hk h0
      go_enter Tryz.func13, Tryz.ntmps13
      go_wp2_with (first | (go_at_call 32; refine (HN.out _).mono ?_; rintro e w' ⟨rfl, rfl⟩) | (go_at_call 33; refine (HS.out _).mono ?_; rintro e w' ⟨rfl, rfl⟩))
      go_ret
      exact ⟨rfl, HB.out _ _⟩
  · rw [if_neg hk]
    have hk' : (k1 != k2) = true := by simpa using hk
    clear hk
    go_enter Tryz.func13, Tryz.ntmps13
    go_wp2_with (first | (go_at_call 31; refine (HC.out _).mono ?_; rintro e w' ⟨rfl, rfl⟩))
    go_ret
    exact ⟨rfl, HB.out _ _⟩

end Go.Proofs.YtadehoibjpmhhaaGreatDoor
