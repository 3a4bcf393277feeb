/- val.Right for every value. Conditions: the tables of unicode/utf8 read as they are laid; the text is no longer than any text is. -/
import Derived.Test.YtfcnobcpnhfgmaaDoorVLa
import Derived.Test.YtfcnobcpnhfgmaaDoorVM
import Derived.Test.YtfcnobcpnhfgmaaDoorShelf
import Derived.Deep.QuietTactic
import Derived.BigQuiet
namespace Go.Proofs.YtfcnobcpnhfgmaaDoor
open Go.RowKit

theorem valid_any (s : ByteArray) (w : World) (hs : s.size ≤ 9223372036854775807) (hL : LaidU w) :
    Calls Tryd.prog 134 #[.string s] w fun e w' => e = .returned (.bool (Lib.validD s.data.toList)) ∧ Below w.heap.size w w' :=
  Tryd.utf8_ValidString s w hs hL.utf

theorem mk_size (l : List UInt8) : (⟨l.toArray⟩ : ByteArray).size = l.length := by rw [Lib.size_eq]
theorem toList_eq (s : ByteArray) : s.toList = s.data.toList := mk_toList s.data.toList
theorem ret_bool {a b : Bool} (h : a = b) : Ending.returned (.bool a) = Ending.returned (.bool b) := by rw [h]

set_option maxHeartbeats 400000 in
theorem vright_1 (n : Int) (s : ByteArray) (w : World) :
    Calls Tryd.prog 94 #[.agg #[.int .i64 1, .int .i64 n, .string s]] w fun e w' => e = .returned (.bool s.toList.isEmpty) ∧ Below w.heap.size w w' := by
  go_enter Tryd.func94, Tryd.ntmps94
  go_wp2
  go_ret
  exact ⟨rfl, below_new _ _⟩

set_option maxHeartbeats 400000 in
theorem vright_2 (n : Int) (s : ByteArray) (w : World) (hs : s.size ≤ 9223372036854775807) :
    Calls Tryd.prog 94 #[.agg #[.int .i64 2, .int .i64 n, .string s]] w fun e w' => e = .returned (.bool (n == 0 && decide (s.size ≤ 32))) ∧ Below w.heap.size w w' := by
  go_enter Tryd.func94, Tryd.ntmps94
  go_wp2
  all_goals go_ret
  · rename_i h
    exact ⟨ret_bool (show decide ((s.size : Int) ≤ 32) = _ by rw [h]; simp; omega), below_new _ _⟩
  · rename_i h
    exact ⟨ret_bool (show false = _ by simp [h]), below_new _ _⟩

set_option maxHeartbeats 400000 in
theorem vright_3 (n : Int) (s : ByteArray) (w : World) (hs : s.size ≤ 9223372036854775807) (hL : LaidU w) :
    Calls Tryd.prog 94 #[.agg #[.int .i64 3, .int .i64 n, .string s]] w fun e w' => e = .returned (.bool (n == 0 && decide (s.size ≤ 32) && Lib.validD s.data.toList)) ∧ Below w.heap.size w w' := by
  obtain ⟨R, hR⟩ : ∃ R, (n == 0 && decide (s.size ≤ 32) && Lib.validD s.data.toList) = R := ⟨_, rfl⟩
  rw [hR]
  have HV : Hid (∀ W, Below w.heap.size w W → Calls Tryd.prog 134 #[.string s] W fun e w' => e = .returned (.bool (Lib.validD s.data.toList)) ∧ Below w.heap.size w w') := fun W hW => (valid_any s W hs (hL.below hW)).mono fun _ _ ⟨he, hb⟩ => ⟨he, hW.trans (hb.mono hW.size)⟩
  clear hL
  generalize Lib.validD s.data.toList = V at *
  have HR := hid hR
  clear hR
  go_enter Tryd.func94, Tryd.ntmps94
  go_wp2_with (go_at_call 134; refine (HV.out _ (below_new _ _)).mono ?_; rintro e w1 ⟨rfl, hb1⟩)
  all_goals go_ret
  · rename_i h1 h2
    exact ⟨ret_bool (show V = R by rw [← HR.out, h1]; simp; omega), by assumption⟩
  · rename_i h1 h2
    exact ⟨ret_bool (show false = R by rw [← HR.out, h1]; simp; omega), below_new _ _⟩
  · rename_i h1
    exact ⟨ret_bool (show false = R by rw [← HR.out]; simp [h1]), below_new _ _⟩

set_option maxHeartbeats 400000 in
theorem vright_4 (n : Int) (s : ByteArray) (w : World) :
    Calls Tryd.prog 94 #[.agg #[.int .i64 4, .int .i64 n, .string s]] w fun e w' => e = .returned (.bool (s.toList.isEmpty && (n == 0 || n == 1))) ∧ Below w.heap.size w w' := by
  obtain ⟨R, hR⟩ : ∃ R, (s.toList.isEmpty && (n == 0 || n == 1)) = R := ⟨_, rfl⟩
  rw [hR]
  have HR := hid hR
  clear hR
  go_enter Tryd.func94, Tryd.ntmps94
  go_wp2
  all_goals go_ret
  · rename_i h1 h2
    exact ⟨ret_bool (show true = R by rw [← HR.out, h1, h2]; rfl), below_new _ _⟩
  · rename_i h1 h2
    exact ⟨ret_bool (show (n == 0 || n == 1) = R by rw [← HR.out, h1]; rfl), below_new _ _⟩
  · rename_i h1
    exact ⟨ret_bool (show false = R by rw [← HR.out]; simp [h1]), below_new _ _⟩

set_option maxHeartbeats 400000 in
theorem vright_5 {n : Int} (h : inI n) (s : ByteArray) (w : World) :
    Calls Tryd.prog 94 #[.agg #[.int .i64 5, .int .i64 n, .string s]] w fun e w' => e = .returned (.bool (s.toList.isEmpty && rightB n)) ∧ Below w.heap.size w w' := by
  obtain ⟨R, hR⟩ : ∃ R, (s.toList.isEmpty && rightB n) = R := ⟨_, rfl⟩
  rw [hR]
  have HV : Hid (∀ W, Calls Tryd.prog 135 #[.int .i64 n] W fun e w' => e = .returned (.bool (rightB n)) ∧ W = w') := fun W => right_any h W
  clear h
  generalize rightB n = V at *
  have HR := hid hR
  clear hR
  go_enter Tryd.func94, Tryd.ntmps94
  go_wp2_with (go_at_call 135; refine (HV.out _).mono ?_; rintro e w1 ⟨rfl, rfl⟩)
  all_goals go_ret
  · rename_i h1
    exact ⟨ret_bool (show V = R by rw [← HR.out, h1]; rfl), below_new _ _⟩
  · rename_i h1
    exact ⟨ret_bool (show false = R by rw [← HR.out]; simp [h1]), below_new _ _⟩

set_option maxHeartbeats 400000 in
theorem vright_0 (k n : Int) (s : ByteArray) (h1 : (k == 1) = false) (h2 : (k == 2) = false) (h3 : (k == 3) = false) (h4 : (k == 4) = false) (h5 : (k == 5) = false) (w : World) :
    Calls Tryd.prog 94 #[.agg #[.int .i64 k, .int .i64 n, .string s]] w fun e w' => e = .returned (.bool false) ∧ Below w.heap.size w w' := by
  go_enter Tryd.func94, Tryd.ntmps94
  go_wp2
  go_ret
  exact ⟨rfl, below_new _ _⟩

/-- val.Right, for every value. -/
theorem vright_any (k : Int) {n : Int} (hn : inI n) (s : ByteArray) (w : World) (hs : s.size ≤ 9223372036854775807) (hL : LaidU w) :
    Calls Tryd.prog 94 #[.agg #[.int .i64 k, .int .i64 n, .string s]] w fun e w' => e = .returned (.bool (vRight k n s.data.toList)) ∧ Below w.heap.size w w' := by
  have hsz : s.data.toList.length = s.size := rfl
  unfold vRight
  rw [hsz, ← toList_eq]
  by_cases h1 : k = 1
  · subst h1; exact vright_1 n s w
  rw [if_neg h1]
  by_cases h2 : k = 2
  · subst h2; exact vright_2 n s w hs
  rw [if_neg h2]
  by_cases h3 : k = 3
  · subst h3; rw [toList_eq]; exact vright_3 n s w hs hL
  rw [if_neg h3]
  by_cases h4 : k = 4
  · subst h4; exact vright_4 n s w
  rw [if_neg h4]
  by_cases h5 : k = 5
  · subst h5; exact vright_5 hn s w
  rw [if_neg h5]
  exact vright_0 k n s (by simpa using h1) (by simpa using h2) (by simpa using h3) (by simpa using h4) (by simpa using h5) w

theorem vright_in (k : Int) {n : Int} (hn : inI n) (s : ByteArray) (w : World) (hs : s.size ≤ 9223372036854775807) (hL : LaidU w) (W : World) (hW : Below w.heap.size w W) :
    Calls Tryd.prog 94 #[.agg #[.int .i64 k, .int .i64 n, .string s]] W fun e w' => e = .returned (.bool (vRight k n s.data.toList)) ∧ Below w.heap.size w w' ∧ Below W.heap.size W w' :=
  (vright_any k hn s W hs (hL.below hW)).mono fun _ _ ⟨he, hb⟩ => ⟨he, hW.trans (hb.mono hW.size), hb⟩

end Go.Proofs.YtfcnobcpnhfgmaaDoor
