/- Plain mathematics: what the document's Unescaped takes is what the reader takes; a list of bytes read part by part. No program in it. -/
import Derived.Test.YtfcnobcpnhfgmaaGreatDoorQB
import Derived.Test.YtfcnobcpnhfgmaaGreatDoorRM
import Derived.Test.YtfcnobcpnhfgmaaGreatDoorDA
namespace Go.Proofs.YtfcnobcpnhfgmaaGreatDoor
open Go.RowKit

theorem rdT_unE : ∀ (n : Nat) (l : List UInt8), l.length ≤ n → rdT l = (unE l).map fun p => (p.1, l.drop p.2)
  | 0, l, h => by
    have : l = [] := List.length_eq_zero_iff.1 (by omega)
    subst this; rfl
  | n + 1, [], _ => rfl
  | n + 1, [x], _ => by rw [unE_single]; rfl
  | n + 1, x :: y :: r, h => by
    simp only [List.length_cons] at h
    by_cases hx : x = 0
    · subst hx
      rw [rdT, if_pos rfl, unE_two]
      by_cases h1 : y = 1
      · rw [if_pos h1, if_pos h1]; rfl
      · rw [if_neg h1, if_neg h1]
        by_cases h2 : y = 255
        · rw [if_pos h2, if_pos h2, rdT_unE n r (by omega), Option.map_map, Option.map_map]
          rfl
        · rw [if_neg h2, if_neg h2]; rfl
    · rw [rdT_other hx, unE_ne hx, rdT_unE n (y :: r) (by simp only [List.length_cons]; omega), Option.map_map, Option.map_map]
      rfl
theorem rdT_un (l : List UInt8) : rdT l = (unE l).map fun p => (p.1, l.drop p.2) := rdT_unE l.length l (Nat.le_refl _)
theorem unE_some {l t : List UInt8} {k : Nat} (h : unE l = some (t, k)) : rdT l = some (t, l.drop k) := by rw [rdT_un, h]; rfl
theorem unE_none {l : List UInt8} (h : unE l = none) : rdT l = none := by rw [rdT_un, h]; rfl
theorem rdT_small {l t u : List UInt8} (h : rdT l = some (t, u)) : t.length + 2 + u.length ≤ l.length := by
  have e := congrArg List.length (rdT_rest h)
  have := esc_ge t
  simp only [List.length_append, List.length_cons] at e
  omega
theorem ptM_none {n : Nat} {l : List UInt8} (h : tk l = none) : ptM (n + 1) l = none := by rw [ptM, h]
theorem ptM_long {n k : Nat} {l r : List UInt8} (h : tk l = some (k, r)) (hk : ¬ k ≤ r.length) : ptM (n + 1) l = none := by rw [ptM, h]; simp only []; rw [if_neg hk]
theorem tk_less {l r : List UInt8} {n : Nat} (h : tk l = some (n, r)) : r.length < l.length := by
  obtain ⟨k, h1, _, h3, h4, _⟩ := tkGo_rest _ _ _ _ _ h
  rw [h4, List.length_drop]; omega
end Go.Proofs.YtfcnobcpnhfgmaaGreatDoor
