/- bytes.Clone. Conditions: the slice holds its bytes, a million at most. -/
import Derived.Test.YtofkfafdodhmdaaSLd
import Derived.Lib.SliceRun
namespace Go.Proofs.Ytofkfafdodhmdaa
open Go.RowKit
set_option maxHeartbeats 1000000 in
theorem clone_nil (c : Nat) (w : World) : Calls Try.prog 42 #[.slice none 0 c] w fun e w' => ∃ v, e = .returned v ∧ Row w' w.heap.size v [] ∧ Below w.heap.size w w' := by
  have q29 : ∀ (w : World) (a : Option Addr) (n c n' c' : Nat), (binOp .eql 32 (.slice a n c) (.slice none n' c')).run Try.prog w = .ok (.bool a.isNone) w := fun w a n c n' c' => Lib.run_eql_slice_nil w _ _ a n c n' c' Try.underlying32
  go_enter Try.func42, Try.ntmps42
  go_wp2
  go_ret
  exact ⟨_, rfl, Row.none _ _, Below.refl _ _⟩

set_option maxHeartbeats 1000000 in
theorem clone_some (ad : Addr) (c : Nat) (l : List UInt8) (hl : l.length ≤ 1000000) (w : World) (hc : ∀ j u, (bc l)[j]? = some u → w.cell? (ad.add j) = some u) :
    Calls Try.prog 42 #[.slice (some ad) l.length c] w fun e w' => ∃ v, e = .returned v ∧ Row w' w.heap.size v l ∧ Below w.heap.size w w' := by
  have hR : Hid (Row (w.alloc (.cells #[] 5)) w.heap.size (.slice (some ⟨w.heap.size, 0, none⟩) 0 0) []) := Row.new w w.heap.size (Nat.le_refl _) [] (by unfold maxLen; simp)
  have HC : Hid (∀ (o : Obj) (j : Nat) (u : Value), (bc l)[j]? = some u → (w.alloc o).cell? (ad.add j) = some u) := fun _ j u hu => Lib.cell?_alloc_some _ (hc j u hu)
  have HL := hid hl
  clear hc hl
  have q29 : ∀ (w : World) (a : Option Addr) (n c n' c' : Nat), (binOp .eql 32 (.slice a n c) (.slice none n' c')).run Try.prog w = .ok (.bool a.isNone) w := fun w a n c n' c' => Lib.run_eql_slice_nil w _ _ a n c n' c' Try.underlying32
  go_enter Try.func42, Try.ntmps42
  go_wp2_with (at_builtin; refine wpList_append_bytes rfl (.tmp 5) (.tmp 6) rfl _ w.heap.size _ [] rfl hR.out ad l.length c l rfl rfl (HC.out _) (by have := HL.out; simp only [List.length_nil]; omega) (by simp) ?_; intro v' w' hR' hb')
  go_ret
  exact ⟨_, rfl, hR', ((Below.refl _ _).alloc (Nat.le_refl _) _).trans hb'⟩

/-- bytes.Clone of a slice that holds l. -/
theorem clone_any (A : Option Addr) (c : Nat) (l : List UInt8) (hl : l.length ≤ 1000000) (w : World) (h : HoldsA w A l) :
    Calls Try.prog 42 #[.slice A l.length c] w fun e w' => ∃ v, e = .returned v ∧ Row w' w.heap.size v l ∧ Below w.heap.size w w' := by
  match A, h with
  | none, h =>
    have h0 : l = [] := by
      cases l with
      | nil => rfl
      | cons x t => obtain ⟨b, off, e, _⟩ := h (by simp); cases e
    subst h0
    exact clone_nil c w
  | some ad, h =>
    refine clone_some ad c l hl w fun j u hu => ?_
    have hj : j < l.length := by
      rcases Nat.lt_or_ge j l.length with h1 | h1
      · exact h1
      · rw [bc_at, List.getElem?_eq_none h1] at hu; cases hu
    obtain ⟨b, off, e, hh⟩ := h (by omega)
    cases e
    have h3 := hh j hj
    rw [add_zero_off]
    rw [h3, ← hu, bc_at, List.getElem?_eq_getElem hj, List.getD_eq_getElem?_getD, List.getElem?_eq_getElem hj]
    rfl

end Go.Proofs.Ytofkfafdodhmdaa
