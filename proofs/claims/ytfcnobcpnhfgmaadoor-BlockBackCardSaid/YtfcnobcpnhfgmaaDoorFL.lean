/- What the small functions of package float do, for every argument: math.IsNaN, To, Right, rank. Conditions: an int is one of 64 bits. -/
import Derived.Test.YtfcnobcpnhfgmaaDoorRows
import Derived.Test.YtfcnobcpnhfgmaaDoorFM
import Derived.WalkKit
import Derived.WalkSpells
import Derived.WalkLawsBesides
namespace Go.Proofs.YtfcnobcpnhfgmaaDoor
open Go.RowKit

theorem call34 (n : Int) (w : World) : (callFunc 174 #[.int .u64 n]).run Tryd.prog w = .ok (.value (.float .f64 n.toNat)) w := by
  rw [run_callFunc_extern (e := Extern.MathFloatBits.float64frombits) Tryd.func174 (by kernel_rfl) (by kernel_rfl) (by kernel_rfl) (by kernel_rfl)]
  rfl

set_option maxHeartbeats 400000 in
theorem to_any (n : Int) (w : World) :
    Calls Tryd.prog 153 #[.int .i64 n] w fun e w' => e = .returned (.float .f64 (wd n)) ∧ w = w' := by
  rw [← wd_u64]
  have h34 := call34
  go_enter Tryd.func153, Tryd.ntmps153
  go_wp2
  go_ret
  exact ⟨rfl, rfl⟩

set_option maxHeartbeats 400000 in
theorem isnan_any (u : Nat) (w : World) :
    Calls Tryd.prog 152 #[.float .f64 u] w fun e w' => e = .returned (.bool (nanB u)) ∧ w = w' := by
  rw [← order_nan]
  go_enter Tryd.func152, Tryd.ntmps152
  go_wp2
  go_ret
  exact ⟨rfl, rfl⟩

set_option maxHeartbeats 400000 in
theorem rank_any {n : Int} (h : inI n) (w : World) :
    Calls Tryd.prog 136 #[.int .i64 n] w fun e w' => e = .returned (.int .u64 (rankI n)) ∧ w = w' := by
  have hb := topBit h
  by_cases hn : n < 0
  · have ht := turned h hn
    rw [decide_eq_true hn] at hb
    rw [← ht]
    clear ht h hn
    go_enter Tryd.func136, Tryd.ntmps136
    go_wp2
    go_ret
    exact ⟨rfl, rfl⟩
  · have ht := marked h hn
    rw [decide_eq_false hn] at hb
    rw [← ht]
    clear ht h hn
    go_enter Tryd.func136, Tryd.ntmps136
    go_wp2
    go_ret
    exact ⟨rfl, rfl⟩

theorem ret_int {k : IntKind} {a b : Int} (h : a = b) : Ending.returned (.int k a) = .returned (.int k b) := by rw [h]

theorem wrap_nan {n : Int} (h : inI n) : (IntKind.u64.wrap n = 9221120237041090560) ↔ n = 9221120237041090560 := by
  rw [IntKind.wrap_u64]; unfold inI at h; omega

set_option maxHeartbeats 400000 in
theorem right_any {n : Int} (h : inI n) (w : World) :
    Calls Tryd.prog 135 #[.int .i64 n] w fun e w' => e = .returned (.bool (rightB n)) ∧ w = w' := by
  have hw := wrap_nan h
  by_cases hn : n = 9221120237041090560
  · have h1 := hw.2 hn
    have h2 : rightB n = true := by unfold rightB; simp [hn]
    rw [h2]
    clear h2 hw hn h
    go_enter Tryd.func135, Tryd.ntmps135
    go_wp2
    go_ret
    exact ⟨rfl, rfl⟩
  · have h1 : (IntKind.u64.wrap n == 9221120237041090560) = false := by simpa using fun h' => hn (hw.1 h')
    have h2 : rightB n = !nanB (wd n) := by unfold rightB; rw [nanB_wd]; simp [hn]
    rw [h2]
    clear h2 hw hn h
    go_enter Tryd.func135, Tryd.ntmps135
    go_wp2_with (first | (go_at_call 153; refine (to_any _ _).mono ?_; rintro e w' ⟨rfl, rfl⟩) | (go_at_call 152; refine (isnan_any _ _).mono ?_; rintro e w' ⟨rfl, rfl⟩))
    go_ret
    exact ⟨rfl, rfl⟩

theorem mk_toList (l : List UInt8) : (⟨l.toArray⟩ : ByteArray).toList = l := by rw [ByteArray.toList_eq]

end Go.Proofs.YtfcnobcpnhfgmaaDoor
