/- Runs as a heap: the mathematics of package merge. Conditions: none but the comparison's own. -/
import Derived.Test.YtgfkobfkncpmoaaDoorP7
namespace Go.Proofs.YtgfkobfkncpmoaaDoor
open Go.RowKit

/-- What is left of a run: its first cell, the others; which run it is. -/
structure Rn (α : Type) where
  h : α
  t : List α
  i : Nat
section
variable {α : Type} {f : α → α → Int}
def leR (f : α → α → Int) (a b : Rn α) : Prop := f a.h b.h < 0 ∨ (f a.h b.h = 0 ∧ a.i ≤ b.i)
def bfr (f : α → α → Int) (a b : Rn α) : Bool := decide (f a.h b.h < 0) || (decide (f a.h b.h = 0) && decide (a.i < b.i))
theorem bfr_no (h : C3 f) {a b : Rn α} : bfr f b a = false ↔ leR f a b := by
  unfold bfr leR
  have := h.anti a.h b.h
  rw [Bool.or_eq_false_iff, Bool.and_eq_false_iff, decide_eq_false_iff_not, decide_eq_false_iff_not, decide_eq_false_iff_not]
  omega
theorem bfr_yes {a b : Rn α} (hb : bfr f b a = true) : leR f b a := by
  unfold bfr at hb
  rw [Bool.or_eq_true, Bool.and_eq_true, decide_eq_true_iff, decide_eq_true_iff, decide_eq_true_iff] at hb
  unfold leR
  omega
theorem leR_refl (h : C3 f) (a : Rn α) : leR f a a := .inr ⟨h.zero _, Nat.le_refl _⟩
theorem leR_trans (h : C3 f) {a b c : Rn α} (h1 : leR f a b) (h2 : leR f b c) : leR f a c := by
  unfold leR at *
  rcases h1 with h1 | ⟨h1, e1⟩ <;> rcases h2 with h2 | ⟨h2, e2⟩
  · exact .inl (h.lt_le h1 (by omega))
  · exact .inl (h.lt_le h1 (by omega))
  · exact .inl (h.le_lt (by omega) h2)
  · have a1 := h.tr a.h b.h c.h (by omega) (by omega)
    have a2 := h.tr c.h b.h a.h (by have := h.anti b.h c.h; omega) (by have := h.anti a.h b.h; omega)
    have a3 := h.anti a.h c.h
    exact .inr ⟨by omega, by omega⟩
theorem leR_total (h : C3 f) (a b : Rn α) : leR f a b ∨ leR f b a := by
  unfold leR
  have := h.anti a.h b.h
  omega
/-- Below a place stand two. -/
def chd (p c : Nat) : Prop := c = 2 * p + 1 ∨ c = 2 * p + 2
/-- From k on no run stands behind those below it. -/
def Hp (f : α → α → Int) (k : Nat) (H : List (Rn α)) : Prop := ∀ (p c : Nat) (a b : Rn α), H[p]? = some a → H[c]? = some b → k ≤ p → chd p c → leR f a b
/-- As long as the run at i sinks. -/
structure Sk (f : α → α → Int) (k i : Nat) (H : List (Rn α)) : Prop where
  oth : ∀ (p c : Nat) (a b : Rn α), H[p]? = some a → H[c]? = some b → k ≤ p → p ≠ i → chd p c → leR f a b
  ovr : ∀ (q c : Nat) (a b : Rn α), H[q]? = some a → H[c]? = some b → k ≤ q → chd q i → chd i c → leR f a b
  ki : k ≤ i
theorem sk_start {i : Nat} {H : List (Rn α)} (h : Hp f (i + 1) H) : Sk f i i H :=
  ⟨fun p c a b h1 h2 h3 h4 h5 => h p c a b h1 h2 (by omega) h5, fun q c a b _ _ h3 h4 _ => by unfold chd at h4; omega, Nat.le_refl _⟩
theorem sk_end {k i : Nat} {H : List (Rn α)} (h : Sk f k i H) (he : ∀ (c : Nat) (a b : Rn α), H[i]? = some a → H[c]? = some b → chd i c → leR f a b) : Hp f k H := fun p c a b h1 h2 h3 h4 => by
  by_cases q : p = i
  · subst q; exact he c a b h1 h2 h4
  · exact h.oth p c a b h1 h2 h3 q h4
/-- Two change places. -/
def swp (H : List (Rn α)) (i l : Nat) (a b : Rn α) : List (Rn α) := (H.set i b).set l a
theorem swp_at {H : List (Rn α)} {i l : Nat} {a b : Rn α} (hi : H[i]? = some a) (hl : H[l]? = some b) (hil : i ≠ l) (j : Nat) : (swp H i l a b)[j]? = if j = i then some b else if j = l then some a else H[j]? := by
  have h1 : i < H.length := by
    rcases Nat.lt_or_ge i H.length with q | q
    · exact q
    · rw [List.getElem?_eq_none q] at hi; cases hi
  have h2 : l < H.length := by
    rcases Nat.lt_or_ge l H.length with q | q
    · exact q
    · rw [List.getElem?_eq_none q] at hl; cases hl
  unfold swp
  rw [List.getElem?_set]
  by_cases q1 : l = j
  · subst q1
    rw [if_pos rfl, if_pos (by rw [List.length_set]; exact h2), if_neg (Ne.symm hil), if_pos rfl]
  · rw [if_neg q1, List.getElem?_set]
    by_cases q2 : i = j
    · subst q2
      rw [if_pos rfl, if_pos h1, if_pos rfl]
    · rw [if_neg q2, if_neg (Ne.symm q2), if_neg (Ne.symm q1)]
theorem swp_len (H : List (Rn α)) (i l : Nat) (a b : Rn α) : (swp H i l a b).length = H.length := by unfold swp; rw [List.length_set, List.length_set]
theorem sk_step {k i l : Nat} {H : List (Rn α)} {a b : Rn α} (hS : Sk f k i H) (hi : H[i]? = some a) (hl : H[l]? = some b) (hc : chd i l) (hb : leR f b a) (hm : ∀ (c : Nat) (x : Rn α), H[c]? = some x → chd i c → leR f b x) : Sk f k l (swp H i l a b) := by
  have hil : i ≠ l := by unfold chd at hc; omega
  have hki := hS.ki
  refine ⟨fun p c x y h1 h2 h3 h4 h5 => ?_, fun q c x y h1 h2 h3 h4 h5 => ?_, by unfold chd at hc; omega⟩
  · rw [swp_at hi hl hil] at h1 h2
    rw [if_neg h4] at h1
    by_cases e1 : p = i
    · rw [if_pos e1] at h1
      cases h1
      subst e1
      rw [if_neg (by unfold chd at h5; omega)] at h2
      by_cases e2 : c = l
      · rw [if_pos e2] at h2
        cases h2
        exact hb
      · rw [if_neg e2] at h2
        exact hm c y h2 h5
    · rw [if_neg e1] at h1
      by_cases e2 : c = i
      · rw [if_pos e2] at h2
        cases h2
        subst e2
        exact hS.ovr p l x b h1 hl h3 h5 hc
      · rw [if_neg e2] at h2
        by_cases e3 : c = l
        · exfalso
          unfold chd at hc h5
          omega
        · rw [if_neg e3] at h2
          exact hS.oth p c x y h1 h2 h3 e1 h5
  · have e0 : q = i := by unfold chd at hc h4; omega
    subst e0
    rw [swp_at hi hl hil] at h1 h2
    rw [if_pos rfl] at h1
    cases h1
    rw [if_neg (by unfold chd at hc h5; omega), if_neg (by unfold chd at hc h5; omega)] at h2
    exact hS.oth l c b y hl h2 (by unfold chd at hc; omega) (Ne.symm hil) h5
/-- The first one is the least. -/
theorem hp_first (h : C3 f) {H : List (Rn α)} (hH : Hp f 0 H) {r : Rn α} (hr : H[0]? = some r) : ∀ (n j : Nat), j ≤ n → ∀ x, H[j]? = some x → leR f r x
  | 0, j, hj, x, hx => by
    have : j = 0 := by omega
    subst this
    rw [hr] at hx
    cases hx
    exact leR_refl h r
  | n + 1, j, hj, x, hx => by
    by_cases q : j = 0
    · subst q
      rw [hr] at hx
      cases hx
      exact leR_refl h r
    · have hp : (j - 1) / 2 < j := by omega
      have hlt : (j - 1) / 2 < H.length := by
        rcases Nat.lt_or_ge j H.length with q2 | q2
        · omega
        · rw [List.getElem?_eq_none q2] at hx; cases hx
      have h1 : H[(j - 1) / 2]? = some H[(j - 1) / 2] := List.getElem?_eq_getElem hlt
      exact leR_trans h (hp_first h hH hr n ((j - 1) / 2) (by omega) _ h1) (hH _ j _ x h1 hx (Nat.zero_le _) (by unfold chd; omega))
theorem hp_least (h : C3 f) {r : Rn α} {t : List (Rn α)} (hH : Hp f 0 (r :: t)) : ∀ x ∈ r :: t, leR f r x := fun x hx => by
  obtain ⟨j, hj, rfl⟩ := List.getElem_of_mem hx
  exact hp_first h hH rfl j j (Nat.le_refl _) _ (List.getElem?_eq_getElem hj)
theorem swp_perm {H : List (Rn α)} {i l : Nat} {a b : Rn α} (hi : H[i]? = some a) (hl : H[l]? = some b) (hil : i < l) : (swp H i l a b).Perm H := by
  obtain ⟨A, C, rfl, hA⟩ : ∃ A C, H = A ++ a :: C ∧ A.length = i := by
    have h1 : i < H.length := by
      rcases Nat.lt_or_ge i H.length with q | q
      · exact q
      · rw [List.getElem?_eq_none q] at hi; cases hi
    refine ⟨H.take i, H.drop (i + 1), ?_, by rw [List.length_take]; omega⟩
    have : a = H[i] := by rw [List.getElem?_eq_getElem h1] at hi; exact (Option.some.inj hi).symm
    rw [this, List.getElem_cons_drop, List.take_append_drop]
  subst hA
  have hl2 : C[l - A.length - 1]? = some b := by
    rw [List.getElem?_append_right (by omega), List.getElem?_cons] at hl
    rw [if_neg (by omega)] at hl
    exact hl
  obtain ⟨D, E, rfl, hD⟩ : ∃ D E, C = D ++ b :: E ∧ D.length = l - A.length - 1 := by
    have h1 : l - A.length - 1 < C.length := by
      rcases Nat.lt_or_ge (l - A.length - 1) C.length with q | q
      · exact q
      · rw [List.getElem?_eq_none q] at hl2; cases hl2
    refine ⟨C.take (l - A.length - 1), C.drop (l - A.length - 1 + 1), ?_, by rw [List.length_take]; omega⟩
    have : b = C[l - A.length - 1] := by rw [List.getElem?_eq_getElem h1] at hl2; exact (Option.some.inj hl2).symm
    rw [this, List.getElem_cons_drop, List.take_append_drop]
  have e : swp (A ++ a :: (D ++ b :: E)) A.length l a b = A ++ b :: (D ++ a :: E) := by
    unfold swp
    rw [List.set_append_right _ _ (Nat.le_refl _), Nat.sub_self, List.set_cons_zero, List.set_append_right _ _ (by omega)]
    obtain ⟨d, hd⟩ : ∃ d, l - A.length = d + 1 := ⟨l - A.length - 1, by omega⟩
    rw [hd, List.set_cons_succ, List.set_append_right _ _ (by omega), show d - D.length = 0 by omega, List.set_cons_zero]
  rw [e]
  refine List.Perm.append_left A ?_
  refine ((List.perm_middle (a := a) (l₁ := D) (l₂ := E)).cons b).trans ?_
  refine (List.Perm.swap a b _).trans ?_
  exact (List.perm_middle (a := b) (l₁ := D) (l₂ := E)).symm.cons a
/-- A run without its first cell. -/
def tlR (r : Rn α) : Option (Rn α) := match r.t with
  | [] => none
  | x :: t => some ⟨x, t, r.i⟩
/-- A run's cells rise. -/
def Rise (f : α → α → Int) (r : Rn α) : Prop := (r.h :: r.t).Pairwise fun a b => f a b < 0
/-- What is left of a run when what is of c's place is passed over. -/
def popR (f : α → α → Int) (c : α) (r : Rn α) : Option (Rn α) := if f r.h c = 0 then tlR r else some r
def popA (f : α → α → Int) (c : α) (H : List (Rn α)) : List (Rn α) := H.filterMap (popR f c)
theorem tl_rise {r x : Rn α} (h : Rise f r) (hx : tlR r = some x) : Rise f x ∧ f r.h x.h < 0 ∧ x.i = r.i := by
  unfold tlR at hx
  obtain ⟨a, t, i⟩ := r
  cases t with
  | nil => cases hx
  | cons b t =>
    cases hx
    obtain ⟨h1, h2⟩ := List.pairwise_cons.1 h
    exact ⟨h2, h1 b (by simp), rfl⟩
theorem pop_step (h : C3 f) {c : α} {r : Rn α} {t : List (Rn α)} (hr : Rise f r) (hc : f r.h c = 0) : popA f c (r :: t) = popA f c ((tlR r).toList ++ t) := by
  unfold popA
  rw [List.filterMap_cons, List.filterMap_append]
  have e : popR f c r = tlR r := by unfold popR; rw [if_pos hc]
  rw [e]
  cases hx : tlR r with
  | none => rfl
  | some x =>
    obtain ⟨_, h1, _⟩ := tl_rise hr hx
    have h2 : ¬ f x.h c = 0 := fun e2 => by
      have a1 := h.anti x.h c
      have := h.lt_le h1 (by omega : f x.h c ≤ 0)
      omega
    have e3 : popR f c x = some x := by unfold popR; rw [if_neg h2]
    show x :: t.filterMap (popR f c) = [x].filterMap (popR f c) ++ t.filterMap (popR f c)
    rw [List.filterMap_cons, e3]
    rfl
theorem pop_done {c : α} {H : List (Rn α)} (hH : ∀ r ∈ H, f r.h c ≠ 0) : popA f c H = H := by
  unfold popA
  induction H with
  | nil => rfl
  | cons r t ih =>
    have e : popR f c r = some r := by unfold popR; rw [if_neg (hH r (by simp))]
    rw [List.filterMap_cons, e, ih fun x hx => hH x (by simp [hx])]
theorem pop_perm {c : α} {H K : List (Rn α)} (h : H.Perm K) : (popA f c H).Perm (popA f c K) := h.filterMap _
/-- What is left of a run when what is ahead of c is passed over. -/
def ofL (l : List α) (i : Nat) : Option (Rn α) := match l with
  | [] => none
  | x :: t => some ⟨x, t, i⟩
def skR (f : α → α → Int) (c : α) (r : Rn α) : Option (Rn α) := ofL ((r.h :: r.t).dropWhile fun x => decide (f x c < 0)) r.i
def skA (f : α → α → Int) (c : α) (H : List (Rn α)) : List (Rn α) := H.filterMap (skR f c)
theorem sk_perm {c : α} {H K : List (Rn α)} (h : H.Perm K) : (skA f c H).Perm (skA f c K) := h.filterMap _
theorem sk_done {c : α} {H : List (Rn α)} (hH : ∀ r ∈ H, ¬ f r.h c < 0) : skA f c H = H := by
  unfold skA
  induction H with
  | nil => rfl
  | cons r t ih =>
    have e : skR f c r = some r := by
      unfold skR
      rw [List.dropWhile_cons, if_neg (by simpa using hH r (by simp))]
      rfl
    rw [List.filterMap_cons, e, ih fun x hx => hH x (by simp [hx])]
/-- The first run passes over all that is ahead of c. -/
theorem sk_once {c : α} {r : Rn α} {t : List (Rn α)} : skA f c (r :: t) = skA f c ((skR f c r).toList ++ t) := by
  unfold skA
  rw [List.filterMap_cons, List.filterMap_append]
  cases hx : skR f c r with
  | none => rfl
  | some x =>
    have e : skR f c x = some x := by
      unfold skR at hx
      cases hd : (r.h :: r.t).dropWhile (fun x => decide (f x c < 0)) with
      | nil => rw [hd] at hx; cases hx
      | cons y u =>
        rw [hd] at hx
        cases hx
        have hy : ¬ (decide (f y c < 0) = true) := by
          have h0 := List.head_dropWhile_not (p := fun x => decide (f x c < 0)) (l := r.h :: r.t) (by rw [hd]; simp)
          simp only [hd, List.head_cons] at h0
          rw [h0]
          decide
        unfold skR
        rw [List.dropWhile_cons, if_neg hy]
        rfl
    show x :: t.filterMap (skR f c) = [x].filterMap (skR f c) ++ t.filterMap (skR f c)
    rw [List.filterMap_cons, e]
    rfl
end
end Go.Proofs.YtgfkobfkncpmoaaDoor
