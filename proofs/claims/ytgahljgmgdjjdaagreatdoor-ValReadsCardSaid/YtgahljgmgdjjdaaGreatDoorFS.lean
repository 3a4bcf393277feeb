/- The document's answers (package joistref01), as functions: size, Right, rank, Order, Bytes, Show, for every int. Conditions: ints of 64 bits. -/
import Derived.Test.YtgahljgmgdjjdaaGreatDoorMA
namespace Go.Proofs.YtgahljgmgdjjdaaGreatDoor
open Go.RowKit

theorem clear_sign (n : Int) : bits .andNot .i64 n (-9223372036854775808) = n % 9223372036854775808 := by
  have e1 : (~~~ BitVec.ofInt 64 (-9223372036854775808)).toNat = 2 ^ 63 - 1 := by decide
  show IntKind.i64.wrap (((BitVec.ofInt 64 n) &&& ~~~(BitVec.ofInt 64 (-9223372036854775808))).toNat : Nat) = _
  rw [BitVec.toNat_and, ofInt64, e1, Nat.and_two_pow_sub_one_eq_mod, IntKind.wrap_i64]
  unfold wd
  omega

set_option maxHeartbeats 400000 in
theorem size_any (n : Int) (w : World) :
    Calls Tryz.prog 55 #[.int .i64 n] w fun e w' => e = .returned (.int .i64 (n % 9223372036854775808)) ∧ w = w' := by
  have hx := clear_sign n
  rw [← hx]
  clear hx
  go_enter Tryz.func55, Tryz.ntmps55
  go_wp2
  go_ret
  exact ⟨rfl, rfl⟩

set_option maxHeartbeats 400000 in
theorem refRight_any (n : Int) (w : World) :
    Calls Tryz.prog 31 #[.int .i64 n] w fun e w' => e = .returned (.bool (rightB n)) ∧ w = w' := by
  have HS : Hid (∀ W, Calls Tryz.prog 55 #[.int .i64 n] W fun e w' => e = .returned (.int .i64 (n % 9223372036854775808)) ∧ W = w') := fun W => size_any n W
  have HR : Hid (rightB n = (!nanB n || (n == 9221120237041090560))) := hid (by unfold rightB; exact Bool.or_comm _ _)
  have hb : decide (n % 9223372036854775808 ≤ 9218868437227405312) = !nanB n := by unfold nanB; rw [Bool.eq_iff_iff]; simp
  obtain ⟨s, hs⟩ : ∃ s, n % 9223372036854775808 = s := ⟨_, rfl⟩
  rw [hs] at HS hb
  clear hs
  cases hn : nanB n
  · rw [hn] at HR hb
    have hb' : s ≤ 9218868437227405312 := of_decide_eq_true hb
    clear hb hn
    have HR2 : Hid (rightB n = true) := hid (by rw [HR.out]; rfl)
    clear HR
    go_enter Tryz.func31, Tryz.ntmps31
    go_wp2_with (go_at_call 55; refine (HS.out _).mono ?_; rintro e w' ⟨rfl, rfl⟩)
    go_ret
    rw [HR2.out]
    exact ⟨rfl, rfl⟩
  · rw [hn] at HR hb
    have hb' : decide (s ≤ 9218868437227405312) = false := hb
    clear hb hn
    have HR2 : Hid (rightB n = (n == 9221120237041090560)) := hid (by rw [HR.out]; rfl)
    clear HR
    go_enter Tryz.func31, Tryz.ntmps31
    go_wp2_with (go_at_call 55; refine (HS.out _).mono ?_; rintro e w' ⟨rfl, rfl⟩)
    go_ret
    rw [HR2.out]
    exact ⟨rfl, rfl⟩

def refRank (n : Int) : Int := if nanB n = true then 9223372036854775807 else if n < 0 then -1 - n % 9223372036854775808 else n

theorem nan_right {n : Int} (h : nanB n = true) : (!rightB n || (n == 9221120237041090560)) = true := by
  unfold rightB; rw [h]; simp

set_option maxHeartbeats 400000 in
theorem refRank_any {n : Int} (h : inI n) (w : World) :
    Calls Tryz.prog 59 #[.int .i64 n] w fun e w' => e = .returned (.int .i64 (refRank n)) ∧ w = w' := by
  have HS : Hid (∀ W, Calls Tryz.prog 55 #[.int .i64 n] W fun e w' => e = .returned (.int .i64 (n % 9223372036854775808)) ∧ W = w') := fun W => size_any n W
  have HRt : Hid (∀ W, Calls Tryz.prog 31 #[.int .i64 n] W fun e w' => e = .returned (.bool (rightB n)) ∧ W = w') := fun W => refRight_any n W
  cases hn : nanB n
  · have hr := right_num hn
    have he : ¬ n = 9221120237041090560 := by intro e; subst e; exact absurd hn (by decide)
    have he2 : (n == 9221120237041090560) = false := by simpa using he
    rw [hr] at HRt
    by_cases h0 : n < 0
    · have e : refRank n = -1 - n % 9223372036854775808 := by unfold refRank; rw [hn, if_neg (by decide), if_pos h0]
      rw [e]
      have s0 : 0 ≤ n % 9223372036854775808 := by omega
      have s1 : n % 9223372036854775808 ≤ 9223372036854775807 := by omega
      obtain ⟨s, hs⟩ : ∃ s, n % 9223372036854775808 = s := ⟨_, rfl⟩
      rw [hs] at HS s0 s1 ⊢
      clear hs e hn hr he h
      go_enter Tryz.func59, Tryz.ntmps59
      go_wp2_with (first | (go_at_call 55; refine (HS.out _).mono ?_; rintro e w' ⟨rfl, rfl⟩) | (go_at_call 31; refine (HRt.out _).mono ?_; rintro e w' ⟨rfl, rfl⟩))
      go_ret
      exact ⟨rfl, rfl⟩
    · have e : refRank n = n := by unfold refRank; rw [hn, if_neg (by decide), if_neg h0]
      rw [e]
      clear e hn hr he h HS
      go_enter Tryz.func59, Tryz.ntmps59
      go_wp2_with (go_at_call 31; refine (HRt.out _).mono ?_; rintro e w' ⟨rfl, rfl⟩)
      go_ret
      exact ⟨rfl, rfl⟩
  · have e : refRank n = 9223372036854775807 := by unfold refRank; rw [if_pos hn]
    rw [e]
    have ho := nan_right hn
    clear e HS hn h
    cases hr : rightB n
    · rw [hr] at HRt
      clear ho hr
      go_enter Tryz.func59, Tryz.ntmps59
      go_wp2_with (go_at_call 31; refine (HRt.out _).mono ?_; rintro e w' ⟨rfl, rfl⟩)
      go_ret
      exact ⟨rfl, rfl⟩
    · rw [hr] at HRt ho
      have he2 : (n == 9221120237041090560) = true := by simpa using ho
      clear ho hr
      go_enter Tryz.func59, Tryz.ntmps59
      go_wp2_with (go_at_call 31; refine (HRt.out _).mono ?_; rintro e w' ⟨rfl, rfl⟩)
      go_ret
      exact ⟨rfl, rfl⟩

theorem ref_ord {a b : Int} (ha : inI a) (hb : inI b) : cmpI (refRank a) (refRank b) = ordI a b := by
  unfold ordI
  have key : ∀ {n : Int}, inI n → (nanB n = true ∧ refRank n = 9223372036854775807 ∧ rankI (canonI n) = 18444492273895866368) ∨ (refRank n = rankI (canonI n) - 9223372036854775808 ∧ rankI (canonI n) ≤ 18442240474082181120) := fun {n} hn => by
    cases h : nanB n
    · refine Or.inr ?_
      rw [canon_num h]
      have hd := of_decide_eq_false h
      unfold refRank rankI inI at *
      rw [h, if_neg (by decide)]
      repeat' split <;> omega
    · refine Or.inl ⟨rfl, ?_, ?_⟩
      · unfold refRank; rw [if_pos h]
      · rw [canon_nan h]; rfl
  have k1 := key ha
  have k2 := key hb
  unfold cmpI
  rcases k1 with ⟨_, e1, f1⟩ | ⟨e1, f1⟩ <;> rcases k2 with ⟨_, e2, f2⟩ | ⟨e2, f2⟩ <;> repeat' split <;> omega

set_option maxHeartbeats 400000 in
theorem refOrder_any {a b : Int} (ha : inI a) (hb : inI b) (w : World) :
    Calls Tryz.prog 36 #[.int .i64 a, .int .i64 b] w fun e w' => e = .returned (.int .i64 (ordI a b)) ∧ w = w' := by
  have ho := ref_ord ha hb
  rw [← ho]
  clear ho
  go_enter Tryz.func36, Tryz.ntmps36
  go_wp2_with (go_at_call 59; refine (refRank_any (by assumption) _).mono ?_; rintro e w' ⟨rfl, rfl⟩)
  all_goals go_ret
  · exact ⟨ret_int (show -1 = cmpI (refRank a) (refRank b) by rw [cmpI, if_pos (by assumption)]), rfl⟩
  · exact ⟨ret_int (show 1 = cmpI (refRank a) (refRank b) by rw [cmpI, if_neg (by omega), if_pos (by assumption)]), rfl⟩
  · exact ⟨ret_int (show 0 = cmpI (refRank a) (refRank b) by rw [cmpI, if_neg (by omega), if_neg (by omega)]), rfl⟩

end Go.Proofs.YtgahljgmgdjjdaaGreatDoor
