/- The laws FloatBits, FloatSigns and FloatOrder answer true for every ints. Conditions: the table of math/bits reads as it is laid. -/
import Derived.Test.YtlfpaipbdlhefaaDoorJ
namespace Go.Proofs.YtlfpaipbdlhefaaDoor
open Go.RowKit

theorem canon_nan {n : Int} (h : nanB n = true) : canonI n = 9221120237041090560 := by unfold canonI; rw [if_pos h]
theorem canon_num {n : Int} (h : nanB n = false) : canonI n = n := by unfold canonI; rw [if_neg (by rw [h]; decide)]
theorem right_num {n : Int} (h : nanB n = false) : rightB n = true := by unfold rightB; rw [h]; simp
theorem right_other {n : Int} (h : nanB n = true) (hn : ¬ n = 9221120237041090560) : rightB n = false := by unfold rightB; rw [h]; simpa using hn
theorem in_nan : inI 9221120237041090560 := by unfold inI; omega
theorem right_nan : rightB 9221120237041090560 = true := by decide

set_option maxHeartbeats 1000000 in
theorem bits_walk {n : Int} (h : inI n) (w : World) (hc : w.cell? ⟨6, 15, none⟩ = some (.int .u8 4)) :
    Calls Tryd.prog 5 #[.int .i64 n] w fun e w' => e = .returned (.bool true) ∧ Below w.heap.size w w' := by
  have HA := hid (alive_any w hc)
  have HOf : Hid (∀ W, Calls Tryd.prog 24 #[.float .f64 (wd n)] W fun e w' => e = .returned (.int .i64 (canonI n)) ∧ W = w') := fun W => of_wd h W
  have ho : (FloatKind.f64.format.order (wd n) (wd n) != some Ordering.eq) = nanB n := by rw [order_nan, nanB_wd]
  have i1 := in_nan
  clear hc
  cases hn : nanB n
  · rw [canon_num hn] at HOf
    have hr := right_num hn
    rw [hn] at ho
    clear hn
    go_enter Tryd.func5, Tryd.ntmps5
    go_wp2_with (first | (go_at_call 9; refine HA.out.mono ?_; rintro e w' ⟨rfl, hb⟩) | (go_at_call 23; refine (to_any _ _).mono ?_; rintro e w' ⟨rfl, rfl⟩) | (go_at_call 24; refine (HOf.out _).mono ?_; rintro e w' ⟨rfl, rfl⟩) | (go_at_call 10; refine (right_any (by assumption) _).mono ?_; rintro e w' ⟨rfl, rfl⟩))
    go_ret
    exact ⟨rfl, by assumption⟩
  · rw [canon_nan hn] at HOf
    rw [hn] at ho
    have hr1 := right_nan
    by_cases e1 : n = 9221120237041090560
    · subst e1
      clear hn
      go_enter Tryd.func5, Tryd.ntmps5
      go_wp2_with (first | (go_at_call 9; refine HA.out.mono ?_; rintro e w' ⟨rfl, hb⟩) | (go_at_call 23; refine (to_any _ _).mono ?_; rintro e w' ⟨rfl, rfl⟩) | (go_at_call 24; refine (HOf.out _).mono ?_; rintro e w' ⟨rfl, rfl⟩) | (go_at_call 10; refine (right_any (by assumption) _).mono ?_; rintro e w' ⟨rfl, rfl⟩))
      go_ret
      exact ⟨rfl, by assumption⟩
    · have hr2 := right_other hn e1
      have e2 : (n == 9221120237041090560) = false := by simpa using e1
      clear hn e1
      go_enter Tryd.func5, Tryd.ntmps5
      go_wp2_with (first | (go_at_call 9; refine HA.out.mono ?_; rintro e w' ⟨rfl, hb⟩) | (go_at_call 23; refine (to_any _ _).mono ?_; rintro e w' ⟨rfl, rfl⟩) | (go_at_call 24; refine (HOf.out _).mono ?_; rintro e w' ⟨rfl, rfl⟩) | (go_at_call 10; refine (right_any (by assumption) _).mono ?_; rintro e w' ⟨rfl, rfl⟩))
      go_ret
      exact ⟨rfl, by assumption⟩

end Go.Proofs.YtlfpaipbdlhefaaDoor
