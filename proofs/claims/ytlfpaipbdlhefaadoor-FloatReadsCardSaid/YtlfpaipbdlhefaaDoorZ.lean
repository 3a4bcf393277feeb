/- The document's Read at the texts with names; and the law FloatReads. Conditions: the error variables hold errors; the table of math/bits reads as it is laid. -/
import Derived.Test.YtlfpaipbdlhefaaDoorY
namespace Go.Proofs.YtlfpaipbdlhefaaDoor
open Go.RowKit

def NUpto (k0 : Nat) (vi : Value) : Prop := ∃ k : Nat, k ≤ k0 ∧ vi = .int .i64 k

set_option maxHeartbeats 2000000 in
theorem refRead_named0 (s : ByteArray) (hs : s.toList = showT 9221120237041090560) (w : World) :
    Calls Tryd.prog 22 #[.string s] w fun e w' => e = .returned (.tuple #[.int .i64 9221120237041090560, .bool true]) ∧ Below w.heap.size w w' := by
  have T0 : (showT 9221120237041090560 == s.toList) = true := by rw [hs]; decide +kernel
  have S0 : Hid (∀ W, Calls Tryd.prog 18 #[.int .i64 9221120237041090560] W fun e w' => e = .returned (.string ⟨(showT 9221120237041090560).toArray⟩) ∧ W = w') := fun W => refShow_any (by unfold inI; omega) W
  clear hs
  go_enter Tryd.func22, Tryd.ntmps22
  go_wp2
  go_loop [5] (fun vi => NUpto 0 vi) (fun vi => 5 - (intOf vi).toNat)
  case atStart => exact ⟨0, by omega, rfl⟩
  case round =>
    obtain ⟨k, hk, rfl⟩ := hrel
    obtain rfl : k = 0 := by omega
    go_wp2_with (first | (go_at_call 18; ((with_reducible refine (S0.out _).mono ?_); rintro e w' ⟨rfl, rfl⟩)))
    go_ret2
    exact ⟨rfl, (Below.refl _ _).alloc (Nat.le_refl _) _⟩

set_option maxHeartbeats 2000000 in
theorem refRead_named1 (s : ByteArray) (hs : s.toList = showT 9218868437227405312) (w : World) :
    Calls Tryd.prog 22 #[.string s] w fun e w' => e = .returned (.tuple #[.int .i64 9218868437227405312, .bool true]) ∧ Below w.heap.size w w' := by
  have T0 : (showT 9221120237041090560 == s.toList) = false := by rw [hs]; decide +kernel
  have T1 : (showT 9218868437227405312 == s.toList) = true := by rw [hs]; decide +kernel
  have S0 : Hid (∀ W, Calls Tryd.prog 18 #[.int .i64 9221120237041090560] W fun e w' => e = .returned (.string ⟨(showT 9221120237041090560).toArray⟩) ∧ W = w') := fun W => refShow_any (by unfold inI; omega) W
  have S1 : Hid (∀ W, Calls Tryd.prog 18 #[.int .i64 9218868437227405312] W fun e w' => e = .returned (.string ⟨(showT 9218868437227405312).toArray⟩) ∧ W = w') := fun W => refShow_any (by unfold inI; omega) W
  clear hs
  go_enter Tryd.func22, Tryd.ntmps22
  go_wp2
  go_loop [5] (fun vi => NUpto 1 vi) (fun vi => 5 - (intOf vi).toNat)
  case atStart => exact ⟨0, by omega, rfl⟩
  case round =>
    obtain ⟨k, hk, rfl⟩ := hrel
    rcases (show k = 0 ∨ k = 1 by omega) with rfl | rfl
    · go_wp2_with (first | (go_at_call 18; ((with_reducible refine (S0.out _).mono ?_); rintro e w' ⟨rfl, rfl⟩)) | (go_at_call 18; ((with_reducible refine (S1.out _).mono ?_); rintro e w' ⟨rfl, rfl⟩)))
      go_round
      case rel => exact ⟨1, by omega, rfl⟩
      case measure => simp [intOf]
    · go_wp2_with (first | (go_at_call 18; ((with_reducible refine (S0.out _).mono ?_); rintro e w' ⟨rfl, rfl⟩)) | (go_at_call 18; ((with_reducible refine (S1.out _).mono ?_); rintro e w' ⟨rfl, rfl⟩)))
      go_ret2
      exact ⟨rfl, (Below.refl _ _).alloc (Nat.le_refl _) _⟩

set_option maxHeartbeats 2000000 in
theorem refRead_named2 (s : ByteArray) (hs : s.toList = showT (-4503599627370496)) (w : World) :
    Calls Tryd.prog 22 #[.string s] w fun e w' => e = .returned (.tuple #[.int .i64 (-4503599627370496), .bool true]) ∧ Below w.heap.size w w' := by
  have T0 : (showT 9221120237041090560 == s.toList) = false := by rw [hs]; decide +kernel
  have T1 : (showT 9218868437227405312 == s.toList) = false := by rw [hs]; decide +kernel
  have T2 : (showT (-4503599627370496) == s.toList) = true := by rw [hs]; decide +kernel
  have S0 : Hid (∀ W, Calls Tryd.prog 18 #[.int .i64 9221120237041090560] W fun e w' => e = .returned (.string ⟨(showT 9221120237041090560).toArray⟩) ∧ W = w') := fun W => refShow_any (by unfold inI; omega) W
  have S1 : Hid (∀ W, Calls Tryd.prog 18 #[.int .i64 9218868437227405312] W fun e w' => e = .returned (.string ⟨(showT 9218868437227405312).toArray⟩) ∧ W = w') := fun W => refShow_any (by unfold inI; omega) W
  have S2 : Hid (∀ W, Calls Tryd.prog 18 #[.int .i64 (-4503599627370496)] W fun e w' => e = .returned (.string ⟨(showT (-4503599627370496)).toArray⟩) ∧ W = w') := fun W => refShow_any (by unfold inI; omega) W
  clear hs
  go_enter Tryd.func22, Tryd.ntmps22
  go_wp2
  go_loop [5] (fun vi => NUpto 2 vi) (fun vi => 5 - (intOf vi).toNat)
  case atStart => exact ⟨0, by omega, rfl⟩
  case round =>
    obtain ⟨k, hk, rfl⟩ := hrel
    rcases (show k = 0 ∨ k = 1 ∨ k = 2 by omega) with rfl | rfl | rfl
    · go_wp2_with (first | (go_at_call 18; ((with_reducible refine (S0.out _).mono ?_); rintro e w' ⟨rfl, rfl⟩)) | (go_at_call 18; ((with_reducible refine (S1.out _).mono ?_); rintro e w' ⟨rfl, rfl⟩)) | (go_at_call 18; ((with_reducible refine (S2.out _).mono ?_); rintro e w' ⟨rfl, rfl⟩)))
      go_round
      case rel => exact ⟨1, by omega, rfl⟩
      case measure => simp [intOf]
    · go_wp2_with (first | (go_at_call 18; ((with_reducible refine (S0.out _).mono ?_); rintro e w' ⟨rfl, rfl⟩)) | (go_at_call 18; ((with_reducible refine (S1.out _).mono ?_); rintro e w' ⟨rfl, rfl⟩)) | (go_at_call 18; ((with_reducible refine (S2.out _).mono ?_); rintro e w' ⟨rfl, rfl⟩)))
      go_round
      case rel => exact ⟨2, by omega, rfl⟩
      case measure => simp [intOf]
    · go_wp2_with (first | (go_at_call 18; ((with_reducible refine (S0.out _).mono ?_); rintro e w' ⟨rfl, rfl⟩)) | (go_at_call 18; ((with_reducible refine (S1.out _).mono ?_); rintro e w' ⟨rfl, rfl⟩)) | (go_at_call 18; ((with_reducible refine (S2.out _).mono ?_); rintro e w' ⟨rfl, rfl⟩)))
      go_ret2
      exact ⟨rfl, (Below.refl _ _).alloc (Nat.le_refl _) _⟩

set_option maxHeartbeats 2000000 in
theorem refRead_named3 (s : ByteArray) (hs : s.toList = showT 0) (w : World) :
    Calls Tryd.prog 22 #[.string s] w fun e w' => e = .returned (.tuple #[.int .i64 0, .bool true]) ∧ Below w.heap.size w w' := by
  have T0 : (showT 9221120237041090560 == s.toList) = false := by rw [hs]; decide +kernel
  have T1 : (showT 9218868437227405312 == s.toList) = false := by rw [hs]; decide +kernel
  have T2 : (showT (-4503599627370496) == s.toList) = false := by rw [hs]; decide +kernel
  have T3 : (showT 0 == s.toList) = true := by rw [hs]; decide +kernel
  have S0 : Hid (∀ W, Calls Tryd.prog 18 #[.int .i64 9221120237041090560] W fun e w' => e = .returned (.string ⟨(showT 9221120237041090560).toArray⟩) ∧ W = w') := fun W => refShow_any (by unfold inI; omega) W
  have S1 : Hid (∀ W, Calls Tryd.prog 18 #[.int .i64 9218868437227405312] W fun e w' => e = .returned (.string ⟨(showT 9218868437227405312).toArray⟩) ∧ W = w') := fun W => refShow_any (by unfold inI; omega) W
  have S2 : Hid (∀ W, Calls Tryd.prog 18 #[.int .i64 (-4503599627370496)] W fun e w' => e = .returned (.string ⟨(showT (-4503599627370496)).toArray⟩) ∧ W = w') := fun W => refShow_any (by unfold inI; omega) W
  have S3 : Hid (∀ W, Calls Tryd.prog 18 #[.int .i64 0] W fun e w' => e = .returned (.string ⟨(showT 0).toArray⟩) ∧ W = w') := fun W => refShow_any (by unfold inI; omega) W
  clear hs
  go_enter Tryd.func22, Tryd.ntmps22
  go_wp2
  go_loop [5] (fun vi => NUpto 3 vi) (fun vi => 5 - (intOf vi).toNat)
  case atStart => exact ⟨0, by omega, rfl⟩
  case round =>
    obtain ⟨k, hk, rfl⟩ := hrel
    rcases (show k = 0 ∨ k = 1 ∨ k = 2 ∨ k = 3 by omega) with rfl | rfl | rfl | rfl
    · go_wp2_with (first | (go_at_call 18; ((with_reducible refine (S0.out _).mono ?_); rintro e w' ⟨rfl, rfl⟩)) | (go_at_call 18; ((with_reducible refine (S1.out _).mono ?_); rintro e w' ⟨rfl, rfl⟩)) | (go_at_call 18; ((with_reducible refine (S2.out _).mono ?_); rintro e w' ⟨rfl, rfl⟩)) | (go_at_call 18; ((with_reducible refine (S3.out _).mono ?_); rintro e w' ⟨rfl, rfl⟩)))
      go_round
      case rel => exact ⟨1, by omega, rfl⟩
      case measure => simp [intOf]
    · go_wp2_with (first | (go_at_call 18; ((with_reducible refine (S0.out _).mono ?_); rintro e w' ⟨rfl, rfl⟩)) | (go_at_call 18; ((with_reducible refine (S1.out _).mono ?_); rintro e w' ⟨rfl, rfl⟩)) | (go_at_call 18; ((with_reducible refine (S2.out _).mono ?_); rintro e w' ⟨rfl, rfl⟩)) | (go_at_call 18; ((with_reducible refine (S3.out _).mono ?_); rintro e w' ⟨rfl, rfl⟩)))
      go_round
      case rel => exact ⟨2, by omega, rfl⟩
      case measure => simp [intOf]
    · go_wp2_with (first | (go_at_call 18; ((with_reducible refine (S0.out _).mono ?_); rintro e w' ⟨rfl, rfl⟩)) | (go_at_call 18; ((with_reducible refine (S1.out _).mono ?_); rintro e w' ⟨rfl, rfl⟩)) | (go_at_call 18; ((with_reducible refine (S2.out _).mono ?_); rintro e w' ⟨rfl, rfl⟩)) | (go_at_call 18; ((with_reducible refine (S3.out _).mono ?_); rintro e w' ⟨rfl, rfl⟩)))
      go_round
      case rel => exact ⟨3, by omega, rfl⟩
      case measure => simp [intOf]
    · go_wp2_with (first | (go_at_call 18; ((with_reducible refine (S0.out _).mono ?_); rintro e w' ⟨rfl, rfl⟩)) | (go_at_call 18; ((with_reducible refine (S1.out _).mono ?_); rintro e w' ⟨rfl, rfl⟩)) | (go_at_call 18; ((with_reducible refine (S2.out _).mono ?_); rintro e w' ⟨rfl, rfl⟩)) | (go_at_call 18; ((with_reducible refine (S3.out _).mono ?_); rintro e w' ⟨rfl, rfl⟩)))
      go_ret2
      exact ⟨rfl, (Below.refl _ _).alloc (Nat.le_refl _) _⟩

set_option maxHeartbeats 2000000 in
theorem refRead_named4 (s : ByteArray) (hs : s.toList = showT (-9223372036854775808)) (w : World) :
    Calls Tryd.prog 22 #[.string s] w fun e w' => e = .returned (.tuple #[.int .i64 (-9223372036854775808), .bool true]) ∧ Below w.heap.size w w' := by
  have T0 : (showT 9221120237041090560 == s.toList) = false := by rw [hs]; decide +kernel
  have T1 : (showT 9218868437227405312 == s.toList) = false := by rw [hs]; decide +kernel
  have T2 : (showT (-4503599627370496) == s.toList) = false := by rw [hs]; decide +kernel
  have T3 : (showT 0 == s.toList) = false := by rw [hs]; decide +kernel
  have T4 : (showT (-9223372036854775808) == s.toList) = true := by rw [hs]; decide +kernel
  have S0 : Hid (∀ W, Calls Tryd.prog 18 #[.int .i64 9221120237041090560] W fun e w' => e = .returned (.string ⟨(showT 9221120237041090560).toArray⟩) ∧ W = w') := fun W => refShow_any (by unfold inI; omega) W
  have S1 : Hid (∀ W, Calls Tryd.prog 18 #[.int .i64 9218868437227405312] W fun e w' => e = .returned (.string ⟨(showT 9218868437227405312).toArray⟩) ∧ W = w') := fun W => refShow_any (by unfold inI; omega) W
  have S2 : Hid (∀ W, Calls Tryd.prog 18 #[.int .i64 (-4503599627370496)] W fun e w' => e = .returned (.string ⟨(showT (-4503599627370496)).toArray⟩) ∧ W = w') := fun W => refShow_any (by unfold inI; omega) W
  have S3 : Hid (∀ W, Calls Tryd.prog 18 #[.int .i64 0] W fun e w' => e = .returned (.string ⟨(showT 0).toArray⟩) ∧ W = w') := fun W => refShow_any (by unfold inI; omega) W
  have S4 : Hid (∀ W, Calls Tryd.prog 18 #[.int .i64 (-9223372036854775808)] W fun e w' => e = .returned (.string ⟨(showT (-9223372036854775808)).toArray⟩) ∧ W = w') := fun W => refShow_any (by unfold inI; omega) W
  clear hs
  go_enter Tryd.func22, Tryd.ntmps22
  go_wp2
  go_loop [5] (fun vi => NUpto 4 vi) (fun vi => 5 - (intOf vi).toNat)
  case atStart => exact ⟨0, by omega, rfl⟩
  case round =>
    obtain ⟨k, hk, rfl⟩ := hrel
    rcases (show k = 0 ∨ k = 1 ∨ k = 2 ∨ k = 3 ∨ k = 4 by omega) with rfl | rfl | rfl | rfl | rfl
    · go_wp2_with (first | (go_at_call 18; ((with_reducible refine (S0.out _).mono ?_); rintro e w' ⟨rfl, rfl⟩)) | (go_at_call 18; ((with_reducible refine (S1.out _).mono ?_); rintro e w' ⟨rfl, rfl⟩)) | (go_at_call 18; ((with_reducible refine (S2.out _).mono ?_); rintro e w' ⟨rfl, rfl⟩)) | (go_at_call 18; ((with_reducible refine (S3.out _).mono ?_); rintro e w' ⟨rfl, rfl⟩)) | (go_at_call 18; ((with_reducible refine (S4.out _).mono ?_); rintro e w' ⟨rfl, rfl⟩)))
      go_round
      case rel => exact ⟨1, by omega, rfl⟩
      case measure => simp [intOf]
    · go_wp2_with (first | (go_at_call 18; ((with_reducible refine (S0.out _).mono ?_); rintro e w' ⟨rfl, rfl⟩)) | (go_at_call 18; ((with_reducible refine (S1.out _).mono ?_); rintro e w' ⟨rfl, rfl⟩)) | (go_at_call 18; ((with_reducible refine (S2.out _).mono ?_); rintro e w' ⟨rfl, rfl⟩)) | (go_at_call 18; ((with_reducible refine (S3.out _).mono ?_); rintro e w' ⟨rfl, rfl⟩)) | (go_at_call 18; ((with_reducible refine (S4.out _).mono ?_); rintro e w' ⟨rfl, rfl⟩)))
      go_round
      case rel => exact ⟨2, by omega, rfl⟩
      case measure => simp [intOf]
    · go_wp2_with (first | (go_at_call 18; ((with_reducible refine (S0.out _).mono ?_); rintro e w' ⟨rfl, rfl⟩)) | (go_at_call 18; ((with_reducible refine (S1.out _).mono ?_); rintro e w' ⟨rfl, rfl⟩)) | (go_at_call 18; ((with_reducible refine (S2.out _).mono ?_); rintro e w' ⟨rfl, rfl⟩)) | (go_at_call 18; ((with_reducible refine (S3.out _).mono ?_); rintro e w' ⟨rfl, rfl⟩)) | (go_at_call 18; ((with_reducible refine (S4.out _).mono ?_); rintro e w' ⟨rfl, rfl⟩)))
      go_round
      case rel => exact ⟨3, by omega, rfl⟩
      case measure => simp [intOf]
    · go_wp2_with (first | (go_at_call 18; ((with_reducible refine (S0.out _).mono ?_); rintro e w' ⟨rfl, rfl⟩)) | (go_at_call 18; ((with_reducible refine (S1.out _).mono ?_); rintro e w' ⟨rfl, rfl⟩)) | (go_at_call 18; ((with_reducible refine (S2.out _).mono ?_); rintro e w' ⟨rfl, rfl⟩)) | (go_at_call 18; ((with_reducible refine (S3.out _).mono ?_); rintro e w' ⟨rfl, rfl⟩)) | (go_at_call 18; ((with_reducible refine (S4.out _).mono ?_); rintro e w' ⟨rfl, rfl⟩)))
      go_round
      case rel => exact ⟨4, by omega, rfl⟩
      case measure => simp [intOf]
    · go_wp2_with (first | (go_at_call 18; ((with_reducible refine (S0.out _).mono ?_); rintro e w' ⟨rfl, rfl⟩)) | (go_at_call 18; ((with_reducible refine (S1.out _).mono ?_); rintro e w' ⟨rfl, rfl⟩)) | (go_at_call 18; ((with_reducible refine (S2.out _).mono ?_); rintro e w' ⟨rfl, rfl⟩)) | (go_at_call 18; ((with_reducible refine (S3.out _).mono ?_); rintro e w' ⟨rfl, rfl⟩)) | (go_at_call 18; ((with_reducible refine (S4.out _).mono ?_); rintro e w' ⟨rfl, rfl⟩)))
      go_ret2
      exact ⟨rfl, (Below.refl _ _).alloc (Nat.le_refl _) _⟩

/-- A right number shown, and read by the document. -/
theorem refRead_yes {n : Int} (h : inI n) (hr : rightB n = true) (w : World) :
    Calls Tryd.prog 22 #[.string ⟨(showT n).toArray⟩] w fun e w' => e = .returned (.tuple #[.int .i64 n, .bool true]) ∧ Below w.heap.size w w' := by
  by_cases e0 : n = 9221120237041090560
  · subst e0; exact refRead_named0 _ (mk_toList _) w
  by_cases e1 : n = 9218868437227405312
  · subst e1; exact refRead_named1 _ (mk_toList _) w
  by_cases e2 : n = -4503599627370496
  · subst e2; exact refRead_named2 _ (mk_toList _) w
  by_cases e3 : n = 0
  · subst e3; exact refRead_named3 _ (mk_toList _) w
  by_cases e4 : n = -9223372036854775808
  · subst e4; exact refRead_named4 _ (mk_toList _) w
  have hsh : showT n = 120 :: fixW 16 (wd n) := by
    unfold showT textW
    unfold inI at h
    rw [if_pos hr]
    rw [if_neg (by unfold wd; omega), if_neg (by unfold wd; omega), if_neg (by unfold wd; omega), if_neg (by unfold wd; omega), if_neg (by unfold wd; omega)]
  have hv : valB (fixW 16 (wd n)) = wd n := valB_fix 16 _ (wd_lt n)
  have hd : (⟨(showT n).toArray⟩ : ByteArray).data.toList.drop 1 = fixW 16 (wd n) := by rw [hsh]; rfl
  refine refRead_17 ⟨(showT n).toArray⟩ ?_ ?_ _ ?_ w
  · intro k hk
    rw [mk_toList, hsh]
    rcases (show k = 0 ∨ k = 1 ∨ k = 2 ∨ k = 3 ∨ k = 4 by omega) with rfl | rfl | rfl | rfl | rfl
    · rw [show showT (nm 0) = nanT by decide +kernel]; rfl
    · rw [show showT (nm 1) = infT by decide +kernel]; rfl
    · rw [show showT (nm 2) = minfT by decide +kernel]; rfl
    · rw [show showT (nm 3) = zeroT by decide +kernel]; rfl
    · rw [show showT (nm 4) = mzeroT by decide +kernel]; rfl
  · rw [hsh]
    show (120 :: fixW 16 (wd n)).toArray.size = 17
    rw [List.size_toArray, List.length_cons, fixW_len]
  · rw [hd, hv, wrap64_wd h, mk_toList, if_pos rfl]

theorem refRead_no (l : List UInt8) (hno : NoneShows l) (w : World) :
    Calls Tryd.prog 22 #[.string ⟨l.toArray⟩] w fun e w' => e = .returned (.tuple #[.int .i64 0, .bool false]) ∧ Below w.heap.size w w' := by
  have hT : ∀ k, k < 5 → (showT (nm k) == (⟨l.toArray⟩ : ByteArray).toList) = false := fun k hk => by
    rw [mk_toList]
    refine beq_eq_false_iff_ne.2 ?_
    rcases (show k = 0 ∨ k = 1 ∨ k = 2 ∨ k = 3 ∨ k = 4 by omega) with rfl | rfl | rfl | rfl | rfl
    · exact hno _ (by unfold inI nm; simp) (by decide)
    · exact hno _ (by unfold inI nm; simp) (by decide)
    · exact hno _ (by unfold inI nm; simp) (by decide)
    · exact hno _ (by unfold inI nm; simp) (by decide)
    · exact hno _ (by unfold inI nm; simp) (by decide)
  by_cases h17 : (⟨l.toArray⟩ : ByteArray).size = 17
  · refine refRead_17 ⟨l.toArray⟩ hT h17 _ ?_ w
    rw [mk_toList, if_neg]
    intro h
    cases hr : rightB (wrap64 (valB ((⟨l.toArray⟩ : ByteArray).data.toList.drop 1) : Int))
    · unfold showT at h
      rw [hr, if_neg (by decide)] at h
      have hl : l.length = 17 := by rw [Lib.size_eq] at h17; simpa using h17
      rw [← h] at hl
      exact absurd hl (by decide)
    · exact hno _ (wrap64_in _) hr h
  · exact refRead_short ⟨l.toArray⟩ hT h17 w

end Go.Proofs.YtlfpaipbdlhefaaDoor
