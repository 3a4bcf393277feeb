/- The document's size and Right (package joistref01), for every int. Conditions: ints of 64 bits. -/
import Derived.Test.YtdjaofbjmnmlbaaDoorFRa
namespace Go.Proofs.YtdjaofbjmnmlbaaDoor
open Go.RowKit

theorem clear_sign (n : Int) : bits .andNot .i64 n (-9223372036854775808) = n % 9223372036854775808 := by
  have e1 : (~~~ BitVec.ofInt 64 (-9223372036854775808)).toNat = 2 ^ 63 - 1 := by decide
  show IntKind.i64.wrap (((BitVec.ofInt 64 n) &&& ~~~(BitVec.ofInt 64 (-9223372036854775808))).toNat : Nat) = _
  rw [BitVec.toNat_and, ofInt64, e1, Nat.and_two_pow_sub_one_eq_mod, IntKind.wrap_i64]
  unfold wd
  omega

set_option maxHeartbeats 400000 in
theorem size_any (n : Int) (w : World) :
    Calls Tryd.prog 155 #[.int .i64 n] w fun e w' => e = .returned (.int .i64 (n % 9223372036854775808)) ∧ w = w' := by
  have hx := clear_sign n
  rw [← hx]
  clear hx
  go_enter Tryd.func155, Tryd.ntmps155
  go_wp2
  go_ret
  exact ⟨rfl, rfl⟩

set_option maxHeartbeats 400000 in
theorem refRight_any (n : Int) (w : World) :
    Calls Tryd.prog 124 #[.int .i64 n] w fun e w' => e = .returned (.bool (rightB n)) ∧ w = w' := by
  have HS : Hid (∀ W, Calls Tryd.prog 155 #[.int .i64 n] W fun e w' => e = .returned (.int .i64 (n % 9223372036854775808)) ∧ W = w') := fun W => size_any n W
  have HR : Hid (rightB n = (!nanB n || (n == 9221120237041090560))) := hid (by unfold rightB; exact Bool.or_comm _ _)
  have hb : decide (n % 9223372036854775808 ≤ 9218868437227405312) = !nanB n := by unfold nanB; rw [Bool.eq_iff_iff]; simp
  obtain ⟨s, hs⟩ : ∃ s, n % 9223372036854775808 = s := ⟨_, rfl⟩
  rw [hs] at HS hb
  clear hs
  cases hn : nanB n
  · rw [hn] at HR hb
    have hb' : s ≤ 9218868437227405312 := of_decide_eq_true hb
    clear hb hn
    have HR2 : Hid (rightB n = true) := hid (by rw [HR.out]; rfl)
    clear HR
    go_enter Tryd.func124, Tryd.ntmps124
    go_wp2_with (go_at_call 155; refine (HS.out _).mono ?_; rintro e w' ⟨rfl, rfl⟩)
    go_ret
    rw [HR2.out]
    exact ⟨rfl, rfl⟩
  · rw [hn] at HR hb
    have hb' : decide (s ≤ 9218868437227405312) = false := hb
    clear hb hn
    have HR2 : Hid (rightB n = (n == 9221120237041090560)) := hid (by rw [HR.out]; rfl)
    clear HR
    go_enter Tryd.func124, Tryd.ntmps124
    go_wp2_with (go_at_call 155; refine (HS.out _).mono ?_; rintro e w' ⟨rfl, rfl⟩)
    go_ret
    rw [HR2.out]
    exact ⟨rfl, rfl⟩

end Go.Proofs.YtdjaofbjmnmlbaaDoor
