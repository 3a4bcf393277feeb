/- What the small functions of package float do, for every argument: math.IsNaN, To, Of, Right, rank, Order. Conditions: an int is one of 64 bits. -/
import Derived.Test.YtgahljgmgdjjdaaGreatDoorRows
import Derived.Test.YtgahljgmgdjjdaaGreatDoorFM
import Derived.WalkKit
import Derived.WalkSpells
import Derived.WalkLawsBesides
namespace Go.Proofs.YtgahljgmgdjjdaaGreatDoor
open Go.RowKit

theorem call34 (n : Int) (w : World) : (callFunc 72 #[.int .u64 n]).run Tryz.prog w = .ok (.value (.float .f64 n.toNat)) w := by
  rw [run_callFunc_extern (e := Extern.MathFloatBits.float64frombits) Tryz.func72 (by kernel_rfl) (by kernel_rfl) (by kernel_rfl) (by kernel_rfl)]
  rfl
theorem call35 (u : Nat) (w : World) : (callFunc 92 #[.float .f64 u]).run Tryz.prog w = .ok (.value (.int .u64 u)) w := by
  rw [run_callFunc_extern (e := Extern.MathFloatBits.float64bits) Tryz.func92 (by kernel_rfl) (by kernel_rfl) (by kernel_rfl) (by kernel_rfl)]
  rfl

set_option maxHeartbeats 400000 in
theorem to_any (n : Int) (w : World) :
    Calls Tryz.prog 54 #[.int .i64 n] w fun e w' => e = .returned (.float .f64 (wd n)) ∧ w = w' := by
  rw [← wd_u64]
  have h34 := call34
  go_enter Tryz.func54, Tryz.ntmps54
  go_wp2
  go_ret
  exact ⟨rfl, rfl⟩

set_option maxHeartbeats 400000 in
theorem isnan_any (u : Nat) (w : World) :
    Calls Tryz.prog 53 #[.float .f64 u] w fun e w' => e = .returned (.bool (nanB u)) ∧ w = w' := by
  rw [← order_nan]
  go_enter Tryz.func53, Tryz.ntmps53
  go_wp2
  go_ret
  exact ⟨rfl, rfl⟩

set_option maxHeartbeats 400000 in
theorem of_any (u : Nat) (w : World) :
    Calls Tryz.prog 74 #[.float .f64 u] w fun e w' => e = .returned (.int .i64 (if nanB u = true then 9221120237041090560 else wrap64 u)) ∧ w = w' := by
  have h35 := call35
  go_enter Tryz.func74, Tryz.ntmps74
  go_wp2_with (go_at_call 53; refine (isnan_any _ _).mono ?_; rintro e w' ⟨rfl, rfl⟩)
  all_goals go_ret
  all_goals exact ⟨by simp [*], rfl⟩

theorem of_wd {n : Int} (h : inI n) (w : World) :
    Calls Tryz.prog 74 #[.float .f64 (wd n)] w fun e w' => e = .returned (.int .i64 (canonI n)) ∧ w = w' := by
  have h1 := of_any (wd n) w
  rw [nanB_wd, wrap64_wd h] at h1
  exact h1

set_option maxHeartbeats 400000 in
theorem rank_any {n : Int} (h : inI n) (w : World) :
    Calls Tryz.prog 51 #[.int .i64 n] w fun e w' => e = .returned (.int .u64 (rankI n)) ∧ w = w' := by
  have hb := topBit h
  by_cases hn : n < 0
  · have ht := turned h hn
    rw [decide_eq_true hn] at hb
    rw [← ht]
    clear ht h hn
    go_enter Tryz.func51, Tryz.ntmps51
    go_wp2
    go_ret
    exact ⟨rfl, rfl⟩
  · have ht := marked h hn
    rw [decide_eq_false hn] at hb
    rw [← ht]
    clear ht h hn
    go_enter Tryz.func51, Tryz.ntmps51
    go_wp2
    go_ret
    exact ⟨rfl, rfl⟩

theorem ret_int {k : IntKind} {a b : Int} (h : a = b) : Ending.returned (.int k a) = .returned (.int k b) := by rw [h]

theorem wrap_nan {n : Int} (h : inI n) : (IntKind.u64.wrap n = 9221120237041090560) ↔ n = 9221120237041090560 := by
  rw [IntKind.wrap_u64]; unfold inI at h; omega

set_option maxHeartbeats 400000 in
theorem right_any {n : Int} (h : inI n) (w : World) :
    Calls Tryz.prog 29 #[.int .i64 n] w fun e w' => e = .returned (.bool (rightB n)) ∧ w = w' := by
  have hw := wrap_nan h
  by_cases hn : n = 9221120237041090560
  · have h1 := hw.2 hn
    have h2 : rightB n = true := by unfold rightB; simp [hn]
    rw [h2]
    clear h2 hw hn h
    go_enter Tryz.func29, Tryz.ntmps29
    go_wp2
    go_ret
    exact ⟨rfl, rfl⟩
  · have h1 : (IntKind.u64.wrap n == 9221120237041090560) = false := by simpa using fun h' => hn (hw.1 h')
    have h2 : rightB n = !nanB (wd n) := by unfold rightB; rw [nanB_wd]; simp [hn]
    rw [h2]
    clear h2 hw hn h
    go_enter Tryz.func29, Tryz.ntmps29
    go_wp2_with (first | (go_at_call 54; refine (to_any _ _).mono ?_; rintro e w' ⟨rfl, rfl⟩) | (go_at_call 53; refine (isnan_any _ _).mono ?_; rintro e w' ⟨rfl, rfl⟩))
    go_ret
    exact ⟨rfl, rfl⟩

set_option maxHeartbeats 400000 in
theorem compare_any (x y : Int) (w : World) :
    Calls Tryz.prog 73 #[.int .u64 x, .int .u64 y] w fun e w' => e = .returned (.int .i64 (cmpI x y)) ∧ w = w' := by
  go_enter Tryz.func73, Tryz.ntmps73
  go_wp2
  all_goals go_ret
  · exact ⟨ret_int (show -1 = cmpI x y by rw [cmpI, if_pos (by assumption)]), rfl⟩
  · exact ⟨ret_int (show 1 = cmpI x y by rw [cmpI, if_neg (by omega), if_pos (by assumption)]), rfl⟩
  · exact ⟨ret_int (show 0 = cmpI x y by rw [cmpI, if_neg (by omega), if_neg (by omega)]), rfl⟩

set_option maxHeartbeats 400000 in
theorem order_any {a b : Int} (ha : inI a) (hb : inI b) (w : World) :
    Calls Tryz.prog 57 #[.int .i64 a, .int .i64 b] w fun e w' => e = .returned (.int .i64 (ordI a b)) ∧ w = w' := by
  have ca := canon_in ha
  have cb := canon_in hb
  unfold ordI
  go_enter Tryz.func57, Tryz.ntmps57
  go_wp2_with (first | (go_at_call 54; refine (to_any _ _).mono ?_; rintro e w' ⟨rfl, rfl⟩) | (go_at_call 74; refine (of_wd (by assumption) _).mono ?_; rintro e w' ⟨rfl, rfl⟩) | (go_at_call 51; refine (rank_any (by assumption) _).mono ?_; rintro e w' ⟨rfl, rfl⟩) | (go_at_call 73; refine (compare_any _ _ _).mono ?_; rintro e w' ⟨rfl, rfl⟩))
  go_ret
  exact ⟨rfl, rfl⟩

end Go.Proofs.YtgahljgmgdjjdaaGreatDoor
