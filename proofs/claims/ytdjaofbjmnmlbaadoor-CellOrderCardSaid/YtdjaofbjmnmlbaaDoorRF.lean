/- The document's Right, for every value with a text of at most a thousand bytes. Conditions: the length alone. -/
import Derived.Test.YtdjaofbjmnmlbaaDoorRE
import Derived.Test.YtdjaofbjmnmlbaaDoorFS
namespace Go.Proofs.YtdjaofbjmnmlbaaDoor
open Go.RowKit

set_option maxHeartbeats 400000 in
theorem refright_1 (n : Int) (s : ByteArray) (w : World) :
    Calls Tryd.prog 76 #[.agg #[.int .i64 1, .int .i64 n, .string s]] w fun e w' => e = .returned (.bool s.toList.isEmpty) ∧ Below w.heap.size w w' := by
  go_enter Tryd.func76, Tryd.ntmps76
  go_wp2
  go_ret
  exact ⟨rfl, below_new _ _⟩

set_option maxHeartbeats 400000 in
theorem refright_2 (n : Int) (s : ByteArray) (w : World) (_ : s.size ≤ 4000) :
    Calls Tryd.prog 76 #[.agg #[.int .i64 2, .int .i64 n, .string s]] w fun e w' => e = .returned (.bool (n == 0 && decide (s.size ≤ 32))) ∧ Below w.heap.size w w' := by
  go_enter Tryd.func76, Tryd.ntmps76
  go_wp2
  all_goals go_ret
  · rename_i h
    exact ⟨ret_bool (show decide ((s.size : Int) ≤ 32) = _ by rw [h]; simp; omega), below_new _ _⟩
  · rename_i h
    exact ⟨ret_bool (show false = _ by simp [h]), below_new _ _⟩

set_option maxHeartbeats 400000 in
theorem refright_3 (n : Int) (s : ByteArray) (w : World) (hs : s.size ≤ 4000)  :
    Calls Tryd.prog 76 #[.agg #[.int .i64 3, .int .i64 n, .string s]] w fun e w' => e = .returned (.bool (n == 0 && decide (s.size ≤ 32) && Lib.validD s.data.toList)) ∧ Below w.heap.size w w' := by
  obtain ⟨R, hR⟩ : ∃ R, (n == 0 && decide (s.size ≤ 32) && Lib.validD s.data.toList) = R := ⟨_, rfl⟩
  rw [hR]
  have HV : Hid (∀ W, Calls Tryd.prog 123 #[.string s] W fun e w' => e = .returned (.bool (Lib.validD s.data.toList)) ∧ W = w') := fun W => utf8_any s (by omega) W
  generalize Lib.validD s.data.toList = V at *
  have HR := hid hR
  clear hR
  go_enter Tryd.func76, Tryd.ntmps76
  go_wp2_with (go_at_call 123; refine (HV.out _).mono ?_; rintro e w1 ⟨rfl, rfl⟩)
  all_goals go_ret
  · rename_i h1 h2
    exact ⟨ret_bool (show V = R by rw [← HR.out, h1]; simp; omega), below_new _ _⟩
  · rename_i h1 h2
    exact ⟨ret_bool (show false = R by rw [← HR.out, h1]; simp; omega), below_new _ _⟩
  · rename_i h1
    exact ⟨ret_bool (show false = R by rw [← HR.out]; simp [h1]), below_new _ _⟩

set_option maxHeartbeats 400000 in
theorem refright_4 (n : Int) (s : ByteArray) (w : World) :
    Calls Tryd.prog 76 #[.agg #[.int .i64 4, .int .i64 n, .string s]] w fun e w' => e = .returned (.bool (s.toList.isEmpty && (n == 0 || n == 1))) ∧ Below w.heap.size w w' := by
  obtain ⟨R, hR⟩ : ∃ R, (s.toList.isEmpty && (n == 0 || n == 1)) = R := ⟨_, rfl⟩
  rw [hR]
  have HR := hid hR
  clear hR
  go_enter Tryd.func76, Tryd.ntmps76
  go_wp2
  all_goals go_ret
  · rename_i h1 h2
    exact ⟨ret_bool (show true = R by rw [← HR.out, h1, h2]; rfl), below_new _ _⟩
  · rename_i h1 h2
    exact ⟨ret_bool (show (n == 0 || n == 1) = R by rw [← HR.out, h1]; rfl), below_new _ _⟩
  · rename_i h1
    exact ⟨ret_bool (show false = R by rw [← HR.out]; simp [h1]), below_new _ _⟩

set_option maxHeartbeats 400000 in
theorem refright_5 (n : Int) (s : ByteArray) (w : World) :
    Calls Tryd.prog 76 #[.agg #[.int .i64 5, .int .i64 n, .string s]] w fun e w' => e = .returned (.bool (s.toList.isEmpty && rightB n)) ∧ Below w.heap.size w w' := by
  obtain ⟨R, hR⟩ : ∃ R, (s.toList.isEmpty && rightB n) = R := ⟨_, rfl⟩
  rw [hR]
  have HV : Hid (∀ W, Calls Tryd.prog 124 #[.int .i64 n] W fun e w' => e = .returned (.bool (rightB n)) ∧ W = w') := fun W => refRight_any n W
  generalize rightB n = V at *
  have HR := hid hR
  clear hR
  go_enter Tryd.func76, Tryd.ntmps76
  go_wp2_with (go_at_call 124; refine (HV.out _).mono ?_; rintro e w1 ⟨rfl, rfl⟩)
  all_goals go_ret
  · rename_i h1
    exact ⟨ret_bool (show V = R by rw [← HR.out, h1]; rfl), below_new _ _⟩
  · rename_i h1
    exact ⟨ret_bool (show false = R by rw [← HR.out]; simp [h1]), below_new _ _⟩

set_option maxHeartbeats 400000 in
theorem refright_0 (k n : Int) (s : ByteArray) (h1 : (k == 1) = false) (h2 : (k == 2) = false) (h3 : (k == 3) = false) (h4 : (k == 4) = false) (h5 : (k == 5) = false) (w : World) :
    Calls Tryd.prog 76 #[.agg #[.int .i64 k, .int .i64 n, .string s]] w fun e w' => e = .returned (.bool false) ∧ Below w.heap.size w w' := by
  go_enter Tryd.func76, Tryd.ntmps76
  go_wp2
  go_ret
  exact ⟨rfl, below_new _ _⟩

/-- The document's Right, for every value with a text of at most a thousand bytes. -/
theorem refright_any (k n : Int) (s : ByteArray) (w : World) (hs : s.size ≤ 4000)  :
    Calls Tryd.prog 76 #[.agg #[.int .i64 k, .int .i64 n, .string s]] w fun e w' => e = .returned (.bool (vRight k n s.data.toList)) ∧ Below w.heap.size w w' := by
  have hsz : s.data.toList.length = s.size := rfl
  unfold vRight
  rw [hsz, ← toList_eq]
  by_cases h1 : k = 1
  · subst h1; exact refright_1 n s w
  rw [if_neg h1]
  by_cases h2 : k = 2
  · subst h2; exact refright_2 n s w hs
  rw [if_neg h2]
  by_cases h3 : k = 3
  · subst h3; rw [toList_eq]; exact refright_3 n s w  hs
  rw [if_neg h3]
  by_cases h4 : k = 4
  · subst h4; exact refright_4 n s w
  rw [if_neg h4]
  by_cases h5 : k = 5
  · subst h5; exact refright_5 n s w
  rw [if_neg h5]
  exact refright_0 k n s (by simpa using h1) (by simpa using h2) (by simpa using h3) (by simpa using h4) (by simpa using h5) w

end Go.Proofs.YtdjaofbjmnmlbaaDoor
