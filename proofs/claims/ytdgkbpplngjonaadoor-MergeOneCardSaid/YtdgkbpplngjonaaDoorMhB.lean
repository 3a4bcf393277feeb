/- What runs made one tell, counted: the mathematics of MergeOne. Conditions: the runs rise. -/
import Derived.Test.YtdgkbpplngjonaaDoorMgL
namespace Go.Proofs.YtdgkbpplngjonaaDoor
open Go.RowKit

section
variable {α : Type} {f : α → α → Int}
/-- Has no earlier run a cell of c's place? -/
def frst (f : α → α → Int) (R : List (List α)) (j : Nat) (c : α) : Bool := (R.take j).all fun l => l.all fun e => decide (¬ f e c = 0)
theorem frst_iff {R : List (List α)} {j : Nat} {c : α} : frst f R j c = true ↔ ∀ (j' : Nat) (l' : List α), j' < j → R[j']? = some l' → ∀ e ∈ l', f e c ≠ 0 := by
  unfold frst
  rw [List.all_eq_true]
  constructor
  · intro h j' l' hj hl e he
    have := h l' (List.mem_of_getElem? (by rw [List.getElem?_take_of_lt hj]; exact hl))
    rw [List.all_eq_true] at this
    exact of_decide_eq_true (this e he)
  · intro h l hl
    obtain ⟨j', hj, rfl⟩ := List.getElem_of_mem hl
    rw [List.length_take] at hj
    rw [List.all_eq_true]
    intro e he
    refine decide_eq_true (h j' _ (by omega) (List.getElem?_eq_getElem (by omega)) e ?_)
    rw [List.getElem_take] at he
    exact he
/-- The cells that are the first ones of their places, of so many runs. -/
def toldN (f : α → α → Int) (R : List (List α)) : Nat → List α
  | 0 => []
  | i + 1 => toldN f R i ++ (R.getD i []).filter (frst f R i)
theorem toldN_mem {R : List (List α)} {c : α} : ∀ (i : Nat), c ∈ toldN f R i ↔ ∃ (j : Nat) (l : List α), j < i ∧ R[j]? = some l ∧ c ∈ l ∧ frst f R j c = true
  | 0 => by simp [toldN]
  | i + 1 => by
    rw [toldN, List.mem_append, toldN_mem i, List.mem_filter]
    constructor
    · rintro (⟨j, l, h1, h2, h3, h4⟩ | ⟨h1, h2⟩)
      · exact ⟨j, l, by omega, h2, h3, h4⟩
      · rw [List.getD_eq_getElem?_getD] at h1
        cases hi : R[i]? with
        | none => rw [hi] at h1; simp at h1
        | some l => rw [hi] at h1; exact ⟨i, l, by omega, hi, h1, h2⟩
    · rintro ⟨j, l, h1, h2, h3, h4⟩
      by_cases q : j = i
      · subst q
        exact .inr ⟨by rw [List.getD_eq_getElem?_getD, h2]; exact h3, h4⟩
      · exact .inl ⟨j, l, by omega, h2, h3, h4⟩
theorem run_nodup (h : C3 f) {l : List α} (hl : l.Pairwise fun a b => f a b < 0) : l.Nodup := hl.imp fun hab e => by
  subst e
  rw [h.zero] at hab
  omega
theorem toldN_nodup (h : C3 f) (ok : α → Bool) {R : List (List α)} (hR : ∀ l ∈ R, Run f ok l) : ∀ i, (toldN f R i).Nodup
  | 0 => List.Pairwise.nil
  | i + 1 => by
    rw [toldN]
    refine List.nodup_append.2 ⟨toldN_nodup h ok hR i, ?_, fun a ha b hb e => ?_⟩
    · refine List.Pairwise.filter _ ?_
      rw [List.getD_eq_getElem?_getD]
      cases hi : R[i]? with
      | none => exact List.Pairwise.nil
      | some l => exact run_nodup h (hR l (List.mem_of_getElem? hi)).2
    · subst e
      obtain ⟨j, l, h1, h2, h3, _⟩ := (toldN_mem i).1 ha
      have h4 := (List.mem_filter.1 hb).2
      exact frst_iff.1 h4 j l h1 h2 a h3 (h.zero a)
theorem toldN_len (h : C3 f) (ok : α → Bool) {R : List (List α)} (hR : ∀ l ∈ R, Run f ok l) {ml : List α} (hm : MgR f ok R ml) : (toldN f R R.length).length = ml.length := by
  refine ((List.perm_ext_iff_of_nodup (toldN_nodup h ok hR _) (run_nodup h hm.rise)).2 fun c => ?_).length_eq
  rw [toldN_mem, hm.mem c, tld_run ok hR]
  constructor
  · rintro ⟨j, l, _, h2, h3, h4⟩
    exact ⟨j, l, h2, h3, frst_iff.1 h4⟩
  · rintro ⟨j, l, h2, h3, h4⟩
    exact ⟨j, l, (List.getElem?_eq_some_iff.1 h2).1, h2, h3, frst_iff.2 h4⟩
theorem frst_told (ok : α → Bool) {R : List (List α)} (hR : ∀ l ∈ R, Run f ok l) {ml : List α} (hm : MgR f ok R ml) {i : Nat} {l : List α} {c : α} (hl : R[i]? = some l) (hc : c ∈ l) (hf : frst f R i c = true) : c ∈ ml :=
  (hm.mem c).2 ((tld_run ok hR c).2 ⟨i, l, hl, hc, frst_iff.1 hf⟩)
theorem frst_succ {R : List (List α)} {n : Nat} {l : List α} {c : α} (hl : R[n]? = some l) : frst f R (n + 1) c = (frst f R n c && l.all fun e => decide (¬ f e c = 0)) := by
  unfold frst
  rw [List.take_add_one, hl, List.all_append]
  simp
theorem frst_no {R : List (List α)} {n i : Nat} {c : α} (h : frst f R n c = false) (hni : n ≤ i) : frst f R i c = false := by
  cases hf : frst f R i c with
  | false => rfl
  | true =>
    have : frst f R n c = true := frst_iff.2 fun j' l' hj hl => frst_iff.1 hf j' l' (by omega) hl
    rw [h] at this
    cases this
end
end Go.Proofs.YtdgkbpplngjonaaDoor
