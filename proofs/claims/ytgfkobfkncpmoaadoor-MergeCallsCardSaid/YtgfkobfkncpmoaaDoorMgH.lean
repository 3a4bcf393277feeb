/- Next: the least cell, and what is of its place is passed over: the mathematics. Conditions: the runs rise. -/
import Derived.Test.YtgfkobfkncpmoaaDoorMgG
namespace Go.Proofs.YtgfkobfkncpmoaaDoor
open Go.RowKit

/-- How many cells are left. -/
def cntR (H : List (Rn CT)) : Nat := (H.map fun r => r.cs.length).sum
theorem cntR_perm {H K : List (Rn CT)} (h : H.Perm K) : cntR H = cntR K := (h.map _).sum_nat
theorem cntR_app (H K : List (Rn CT)) : cntR (H ++ K) = cntR H + cntR K := by unfold cntR; rw [List.map_append, List.sum_append]
theorem cntR_cons (r : Rn CT) (H : List (Rn CT)) : cntR (r :: H) = r.cs.length + cntR H := rfl
/-- Runs that rise and have nothing ahead of c. -/
def OkR (c : CT) (H : List (Rn CT)) : Prop := ∀ r ∈ H, Rise CT.cmp r ∧ CT.cmp c r.h ≤ 0
theorem ofL_one (r : Rn CT) : ofL (r.cs.drop 1) r.i = tlR r := by
  obtain ⟨h, t, i⟩ := r
  cases t <;> rfl
theorem next_drop {x : Rn CT} {t l : List (Rn CT)} {c : CT} (hp : l.Perm ((ofL (x.cs.drop 1) x.i).toList ++ t)) (hr : OkR c (x :: t)) (hc : CT.cmp x.h c = 0) :
    (popA CT.cmp c l).Perm (popA CT.cmp c (x :: t)) ∧ OkR c l ∧ cntR (x :: t) = cntR l + 1 := by
  rw [ofL_one] at hp
  have hx := hr x (List.mem_cons_self ..)
  refine ⟨?_, fun r h => ?_, ?_⟩
  · rw [pop_step ct_c3 hx.1 hc]
    exact pop_perm hp
  · rcases List.mem_append.1 (hp.mem_iff.1 h) with h | h
    · cases hq : tlR x with
      | none => rw [hq] at h; simp at h
      | some y =>
        rw [hq] at h
        have e : r = y := by simpa using h
        subst e
        obtain ⟨h1, h2, _⟩ := tl_rise hx.1 hq
        exact ⟨h1, Int.le_of_lt (ct_c3.le_lt hx.2 h2)⟩
    · exact hr r (List.mem_cons_of_mem _ h)
  · rw [cntR_perm hp, cntR_app, cntR_cons]
    obtain ⟨h, t, i⟩ := x
    cases t with
    | nil => show 1 + _ = 0 + _ + 1; omega
    | cons a u =>
      show (u.length + 1 + 1) + _ = (u.length + 1 + 0) + _ + 1
      omega
theorem next_done {x : Rn CT} {t : List (Rn CT)} {c : CT} (hH : Hp CT.cmp 0 (x :: t)) (hr : OkR c (x :: t)) (hc : ¬ CT.cmp x.h c = 0) : popA CT.cmp c (x :: t) = x :: t :=
  pop_done fun r h e => by
    have h1 := hp_least ct_c3 hH r h
    have h2 := (hr x (List.mem_cons_self ..)).2
    have h3 := ct_c3.anti x.h c
    have h4 : CT.cmp x.h r.h ≤ 0 := by unfold leR at h1; omega
    have h5 : CT.cmp c r.h < 0 := ct_c3.lt_le (by omega) h4
    have h6 := ct_c3.anti c r.h
    omega
theorem next_none (c : CT) : popA CT.cmp c [] = [] := rfl
theorem next_start {x : Rn CT} {t : List (Rn CT)} (hH : Hp CT.cmp 0 (x :: t)) (hr : ∀ r ∈ x :: t, Rise CT.cmp r) : OkR x.h (x :: t) := fun r h =>
  ⟨hr r h, by have := hp_least ct_c3 hH r h; unfold leR at this; omega⟩
end Go.Proofs.YtgfkobfkncpmoaaDoor
