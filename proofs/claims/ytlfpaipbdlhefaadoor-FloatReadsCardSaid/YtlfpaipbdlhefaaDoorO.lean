/- The laws FloatSigns and FloatOrder answer true for every ints. Conditions: the table of math/bits reads as it is laid. -/
import Derived.Test.YtlfpaipbdlhefaaDoorK
import Derived.Test.YtlfpaipbdlhefaaDoorN
namespace Go.Proofs.YtlfpaipbdlhefaaDoor
open Go.RowKit

theorem nan_of_right {n : Int} (h : rightB n = true) (hn : ¬ n = 9221120237041090560) : nanB n = false := by
  unfold rightB at h
  cases hb : nanB n
  · rfl
  · rw [hb] at h
    simp at h
    exact absurd h hn

set_option maxHeartbeats 1000000 in
theorem signs_walk {a b : Int} (ha : inI a) (hb : inI b) (w : World) (hc : w.cell? ⟨6, 15, none⟩ = some (.int .u8 4)) :
    Calls Tryd.prog 8 #[.int .i64 a, .int .i64 b] w fun e w' => e = .returned (.bool true) ∧ Below w.heap.size w w' := by
  have HA := hid (alive_any w hc)
  clear hc
  by_cases ra : rightB a = false
  · go_enter Tryd.func8, Tryd.ntmps8
    go_wp2_with (first | (go_at_call 9; refine HA.out.mono ?_; rintro e w' ⟨rfl, hb⟩) | (go_at_call 10; refine (right_any (by assumption) _).mono ?_; rintro e w' ⟨rfl, rfl⟩))
    go_ret
    exact ⟨rfl, by assumption⟩
  have ra' : rightB a = true := by simpa using ra
  clear ra
  by_cases rb : rightB b = false
  · go_enter Tryd.func8, Tryd.ntmps8
    go_wp2_with (first | (go_at_call 9; refine HA.out.mono ?_; rintro e w' ⟨rfl, hb⟩) | (go_at_call 10; refine (right_any (by assumption) _).mono ?_; rintro e w' ⟨rfl, rfl⟩))
    go_ret
    exact ⟨rfl, by assumption⟩
  have rb' : rightB b = true := by simpa using rb
  clear rb
  by_cases ea : a = 9221120237041090560
  · have ea' : (a == 9221120237041090560) = true := by simpa using ea
    clear ea
    go_enter Tryd.func8, Tryd.ntmps8
    go_wp2_with (first | (go_at_call 9; refine HA.out.mono ?_; rintro e w' ⟨rfl, hb⟩) | (go_at_call 10; refine (right_any (by assumption) _).mono ?_; rintro e w' ⟨rfl, rfl⟩))
    go_ret
    exact ⟨rfl, by assumption⟩
  have ea' : (a == 9221120237041090560) = false := by simpa using ea
  by_cases eb : b = 9221120237041090560
  · have eb' : (b == 9221120237041090560) = true := by simpa using eb
    clear ea eb
    go_enter Tryd.func8, Tryd.ntmps8
    go_wp2_with (first | (go_at_call 9; refine HA.out.mono ?_; rintro e w' ⟨rfl, hb⟩) | (go_at_call 10; refine (right_any (by assumption) _).mono ?_; rintro e w' ⟨rfl, rfl⟩))
    go_ret
    exact ⟨rfl, by assumption⟩
  have eb' : (b == 9221120237041090560) = false := by simpa using eb
  have na := nan_of_right ra' ea
  have nb := nan_of_right rb' eb
  have ho := flip_ord ha hb na nb
  have fa := flip_in ha
  have fb := flip_in hb
  have rfa : rightB (flipI a) = true := by unfold rightB; rw [flip_nan ha, na]; simp
  have rfb : rightB (flipI b) = true := by unfold rightB; rw [flip_nan hb, nb]; simp
  have xa := xor_sign ha
  have xb := xor_sign hb
  clear ea eb na nb
  rcases ordI_cases a b with h | h | h <;> rw [h] at ho <;>
  · go_enter Tryd.func8, Tryd.ntmps8
    go_wp2_with (first | (go_at_call 9; refine HA.out.mono ?_; rintro e w' ⟨rfl, hb⟩) | (go_at_call 10; refine (right_any (by assumption) _).mono ?_; rintro e w' ⟨rfl, rfl⟩) | (go_at_call 12; refine (order_any (by assumption) (by assumption) _).mono ?_; rintro e w' ⟨rfl, rfl⟩))
    go_ret
    exact ⟨rfl, by assumption⟩

set_option maxHeartbeats 4000000 in
theorem order_walk {a b c : Int} (ha : inI a) (hb : inI b) (hcc : inI c) (w : World) (hc : w.cell? ⟨6, 15, none⟩ = some (.int .u8 4)) :
    Calls Tryd.prog 6 #[.int .i64 a, .int .i64 b, .int .i64 c] w fun e w' => e = .returned (.bool true) ∧ Below w.heap.size w w' := by
  have HA := hid (alive_any w hc)
  clear hc
  have haa := ordI_self a
  rcases order_ways ha hb with ho | ⟨ho, h⟩ | ⟨ho, h⟩ | ⟨ho, rfl, h⟩ | ⟨ho, hne, h | h⟩
  · have l1 : (FloatKind.f64.format.order (wd a) (wd b) == some Ordering.lt) = false := by rw [ho]; rfl
    have l2 : (FloatKind.f64.format.order (wd a) (wd b) == some Ordering.gt) = false := by rw [ho]; rfl
    have l3 : (FloatKind.f64.format.order (wd a) (wd b) == some Ordering.eq) = false := by rw [ho]; rfl
    clear ho
    rcases ordI_cases a b with h | h | h
    · have h2 : ordI b a = 1 := by rw [ordI_neg, h]; rfl
      rcases ordI_cases b c with k | k | k
      · have hac := ordI_trans h k
        go_enter Tryd.func6, Tryd.ntmps6
        go_wp2_with (first | (go_at_call 9; refine HA.out.mono ?_; rintro e w' ⟨rfl, hb⟩) | (go_at_call 12; refine (order_any (by assumption) (by assumption) _).mono ?_; rintro e w' ⟨rfl, rfl⟩) | (go_at_call 23; refine (to_any _ _).mono ?_; rintro e w' ⟨rfl, rfl⟩))
        go_ret
        exact ⟨rfl, by assumption⟩
      · go_enter Tryd.func6, Tryd.ntmps6
        go_wp2_with (first | (go_at_call 9; refine HA.out.mono ?_; rintro e w' ⟨rfl, hb⟩) | (go_at_call 12; refine (order_any (by assumption) (by assumption) _).mono ?_; rintro e w' ⟨rfl, rfl⟩) | (go_at_call 23; refine (to_any _ _).mono ?_; rintro e w' ⟨rfl, rfl⟩))
        go_ret
        exact ⟨rfl, by assumption⟩
      · go_enter Tryd.func6, Tryd.ntmps6
        go_wp2_with (first | (go_at_call 9; refine HA.out.mono ?_; rintro e w' ⟨rfl, hb⟩) | (go_at_call 12; refine (order_any (by assumption) (by assumption) _).mono ?_; rintro e w' ⟨rfl, rfl⟩) | (go_at_call 23; refine (to_any _ _).mono ?_; rintro e w' ⟨rfl, rfl⟩))
        go_ret
        exact ⟨rfl, by assumption⟩
    · have h2 : ordI b a = 0 := by rw [ordI_neg, h]; rfl
      go_enter Tryd.func6, Tryd.ntmps6
      go_wp2_with (first | (go_at_call 9; refine HA.out.mono ?_; rintro e w' ⟨rfl, hb⟩) | (go_at_call 12; refine (order_any (by assumption) (by assumption) _).mono ?_; rintro e w' ⟨rfl, rfl⟩) | (go_at_call 23; refine (to_any _ _).mono ?_; rintro e w' ⟨rfl, rfl⟩))
      go_ret
      exact ⟨rfl, by assumption⟩
    · have h2 : ordI b a = -1 := by rw [ordI_neg, h]
      go_enter Tryd.func6, Tryd.ntmps6
      go_wp2_with (first | (go_at_call 9; refine HA.out.mono ?_; rintro e w' ⟨rfl, hb⟩) | (go_at_call 12; refine (order_any (by assumption) (by assumption) _).mono ?_; rintro e w' ⟨rfl, rfl⟩) | (go_at_call 23; refine (to_any _ _).mono ?_; rintro e w' ⟨rfl, rfl⟩))
      go_ret
      exact ⟨rfl, by assumption⟩
  · have l1 : (FloatKind.f64.format.order (wd a) (wd b) == some Ordering.lt) = true := by rw [ho]; rfl
    have l2 : (FloatKind.f64.format.order (wd a) (wd b) == some Ordering.gt) = false := by rw [ho]; rfl
    have l3 : (FloatKind.f64.format.order (wd a) (wd b) == some Ordering.eq) = false := by rw [ho]; rfl
    clear ho
    have h2 : ordI b a = 1 := by rw [ordI_neg, h]; rfl
    rcases ordI_cases b c with k | k | k
    · have hac := ordI_trans h k
      go_enter Tryd.func6, Tryd.ntmps6
      go_wp2_with (first | (go_at_call 9; refine HA.out.mono ?_; rintro e w' ⟨rfl, hb⟩) | (go_at_call 12; refine (order_any (by assumption) (by assumption) _).mono ?_; rintro e w' ⟨rfl, rfl⟩) | (go_at_call 23; refine (to_any _ _).mono ?_; rintro e w' ⟨rfl, rfl⟩))
      go_ret
      exact ⟨rfl, by assumption⟩
    · go_enter Tryd.func6, Tryd.ntmps6
      go_wp2_with (first | (go_at_call 9; refine HA.out.mono ?_; rintro e w' ⟨rfl, hb⟩) | (go_at_call 12; refine (order_any (by assumption) (by assumption) _).mono ?_; rintro e w' ⟨rfl, rfl⟩) | (go_at_call 23; refine (to_any _ _).mono ?_; rintro e w' ⟨rfl, rfl⟩))
      go_ret
      exact ⟨rfl, by assumption⟩
    · go_enter Tryd.func6, Tryd.ntmps6
      go_wp2_with (first | (go_at_call 9; refine HA.out.mono ?_; rintro e w' ⟨rfl, hb⟩) | (go_at_call 12; refine (order_any (by assumption) (by assumption) _).mono ?_; rintro e w' ⟨rfl, rfl⟩) | (go_at_call 23; refine (to_any _ _).mono ?_; rintro e w' ⟨rfl, rfl⟩))
      go_ret
      exact ⟨rfl, by assumption⟩
  · have l1 : (FloatKind.f64.format.order (wd a) (wd b) == some Ordering.lt) = false := by rw [ho]; rfl
    have l2 : (FloatKind.f64.format.order (wd a) (wd b) == some Ordering.gt) = true := by rw [ho]; rfl
    have l3 : (FloatKind.f64.format.order (wd a) (wd b) == some Ordering.eq) = false := by rw [ho]; rfl
    clear ho
    have h2 : ordI b a = -1 := by rw [ordI_neg, h]
    go_enter Tryd.func6, Tryd.ntmps6
    go_wp2_with (first | (go_at_call 9; refine HA.out.mono ?_; rintro e w' ⟨rfl, hb⟩) | (go_at_call 12; refine (order_any (by assumption) (by assumption) _).mono ?_; rintro e w' ⟨rfl, rfl⟩) | (go_at_call 23; refine (to_any _ _).mono ?_; rintro e w' ⟨rfl, rfl⟩))
    go_ret
    exact ⟨rfl, by assumption⟩
  · have l1 : (FloatKind.f64.format.order (wd a) (wd a) == some Ordering.lt) = false := by rw [ho]; rfl
    have l2 : (FloatKind.f64.format.order (wd a) (wd a) == some Ordering.gt) = false := by rw [ho]; rfl
    have l3 : (FloatKind.f64.format.order (wd a) (wd a) == some Ordering.eq) = true := by rw [ho]; rfl
    clear ho
    go_enter Tryd.func6, Tryd.ntmps6
    go_wp2_with (first | (go_at_call 9; refine HA.out.mono ?_; rintro e w' ⟨rfl, hb⟩) | (go_at_call 12; refine (order_any (by assumption) (by assumption) _).mono ?_; rintro e w' ⟨rfl, rfl⟩) | (go_at_call 23; refine (to_any _ _).mono ?_; rintro e w' ⟨rfl, rfl⟩))
    go_ret
    exact ⟨rfl, by assumption⟩
  · have l1 : (FloatKind.f64.format.order (wd a) (wd b) == some Ordering.lt) = false := by rw [ho]; rfl
    have l2 : (FloatKind.f64.format.order (wd a) (wd b) == some Ordering.gt) = false := by rw [ho]; rfl
    have l3 : (FloatKind.f64.format.order (wd a) (wd b) == some Ordering.eq) = true := by rw [ho]; rfl
    clear ho
    have h2 : ordI b a = 1 := by rw [ordI_neg, h]; rfl
    rcases ordI_cases b c with k | k | k
    · have hac := ordI_trans h k
      go_enter Tryd.func6, Tryd.ntmps6
      go_wp2_with (first | (go_at_call 9; refine HA.out.mono ?_; rintro e w' ⟨rfl, hb⟩) | (go_at_call 12; refine (order_any (by assumption) (by assumption) _).mono ?_; rintro e w' ⟨rfl, rfl⟩) | (go_at_call 23; refine (to_any _ _).mono ?_; rintro e w' ⟨rfl, rfl⟩))
      go_ret
      exact ⟨rfl, by assumption⟩
    · go_enter Tryd.func6, Tryd.ntmps6
      go_wp2_with (first | (go_at_call 9; refine HA.out.mono ?_; rintro e w' ⟨rfl, hb⟩) | (go_at_call 12; refine (order_any (by assumption) (by assumption) _).mono ?_; rintro e w' ⟨rfl, rfl⟩) | (go_at_call 23; refine (to_any _ _).mono ?_; rintro e w' ⟨rfl, rfl⟩))
      go_ret
      exact ⟨rfl, by assumption⟩
    · go_enter Tryd.func6, Tryd.ntmps6
      go_wp2_with (first | (go_at_call 9; refine HA.out.mono ?_; rintro e w' ⟨rfl, hb⟩) | (go_at_call 12; refine (order_any (by assumption) (by assumption) _).mono ?_; rintro e w' ⟨rfl, rfl⟩) | (go_at_call 23; refine (to_any _ _).mono ?_; rintro e w' ⟨rfl, rfl⟩))
      go_ret
      exact ⟨rfl, by assumption⟩
  · have l1 : (FloatKind.f64.format.order (wd a) (wd b) == some Ordering.lt) = false := by rw [ho]; rfl
    have l2 : (FloatKind.f64.format.order (wd a) (wd b) == some Ordering.gt) = false := by rw [ho]; rfl
    have l3 : (FloatKind.f64.format.order (wd a) (wd b) == some Ordering.eq) = true := by rw [ho]; rfl
    clear ho
    have h2 : ordI b a = -1 := by rw [ordI_neg, h]
    go_enter Tryd.func6, Tryd.ntmps6
    go_wp2_with (first | (go_at_call 9; refine HA.out.mono ?_; rintro e w' ⟨rfl, hb⟩) | (go_at_call 12; refine (order_any (by assumption) (by assumption) _).mono ?_; rintro e w' ⟨rfl, rfl⟩) | (go_at_call 23; refine (to_any _ _).mono ?_; rintro e w' ⟨rfl, rfl⟩))
    go_ret
    exact ⟨rfl, by assumption⟩

end Go.Proofs.YtlfpaipbdlhefaaDoor
