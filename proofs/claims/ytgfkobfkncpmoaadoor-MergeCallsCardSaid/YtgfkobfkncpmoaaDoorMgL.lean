/- What runs made one tell: the mathematics of Merge, Next and Skip. Conditions: the runs rise, their numbers are apart. -/
import Derived.Test.YtgfkobfkncpmoaaDoorMgA
namespace Go.Proofs.YtgfkobfkncpmoaaDoor
open Go.RowKit

section
variable {α : Type} {f : α → α → Int}
/-- d is told: it is of a run, and no earlier run has one of its place. -/
def Tld (f : α → α → Int) (H : List (Rn α)) (d : α) : Prop := ∃ r ∈ H, d ∈ r.h :: r.t ∧ ∀ r' ∈ H, r'.i < r.i → ∀ e ∈ r'.h :: r'.t, f e d ≠ 0
def Dst (H : List (Rn α)) : Prop := H.Pairwise fun a b => a.i ≠ b.i
/-- What runs tell, made one. -/
structure MgO (f : α → α → Int) (H : List (Rn α)) (l : List α) : Prop where
  rise : l.Pairwise fun a b => f a b < 0
  mem : ∀ d, d ∈ l ↔ Tld f H d
theorem tld_perm {H K : List (Rn α)} (h : H.Perm K) (d : α) : Tld f H d ↔ Tld f K d := by
  unfold Tld
  constructor
  · rintro ⟨r, h1, h2, h3⟩
    exact ⟨r, h.mem_iff.1 h1, h2, fun r' q => h3 r' (h.mem_iff.2 q)⟩
  · rintro ⟨r, h1, h2, h3⟩
    exact ⟨r, h.mem_iff.2 h1, h2, fun r' q => h3 r' (h.mem_iff.1 q)⟩
theorem mgo_perm {H K : List (Rn α)} {l : List α} (h : H.Perm K) (hm : MgO f H l) : MgO f K l := ⟨hm.rise, fun d => (hm.mem d).trans (tld_perm h d)⟩
theorem dst_perm {H K : List (Rn α)} (h : H.Perm K) (hd : Dst H) : Dst K := (h.pairwise_iff (fun q => Ne.symm q)).1 hd
theorem mgo_nil {l : List α} (h : MgO f [] l) : l = [] := by
  cases l with
  | nil => rfl
  | cons a t =>
    obtain ⟨r, hr, _⟩ := (h.mem a).1 (by simp)
    cases hr
theorem mgo_nil_nil : MgO f ([] : List (Rn α)) [] := ⟨List.Pairwise.nil, fun d => ⟨fun h => by simp at h, fun ⟨r, hr, _⟩ => by simp at hr⟩⟩
theorem rise_le (h : C3 f) {r : Rn α} (hr : Rise f r) {d : α} (hd : d ∈ r.h :: r.t) : f r.h d ≤ 0 := by
  rcases List.mem_cons.1 hd with rfl | hd
  · rw [h.zero]; exact Int.le_refl 0
  · exact Int.le_of_lt ((List.pairwise_cons.1 hr).1 d hd)
theorem pop_mem {c : α} {H : List (Rn α)} {x : Rn α} (hx : x ∈ popA f c H) : ∃ r ∈ H, x.i = r.i ∧ ((f r.h c = 0 ∧ r.t = x.h :: x.t) ∨ (f r.h c ≠ 0 ∧ x = r)) := by
  unfold popA at hx
  obtain ⟨r, hr, he⟩ := List.mem_filterMap.1 hx
  unfold popR at he
  by_cases q : f r.h c = 0
  · rw [if_pos q] at he
    unfold tlR at he
    cases ht : r.t with
    | nil => rw [ht] at he; cases he
    | cons a u =>
      rw [ht] at he
      cases he
      exact ⟨r, hr, rfl, .inl ⟨q, ht⟩⟩
  · rw [if_neg q] at he
    cases he
    exact ⟨x, hr, rfl, .inr ⟨q, rfl⟩⟩
theorem pop_has {c : α} {H : List (Rn α)} {r : Rn α} (hr : r ∈ H) {d : α} (hd : d ∈ r.h :: r.t) (hn : ¬ (d = r.h ∧ f r.h c = 0)) : ∃ x ∈ popA f c H, x.i = r.i ∧ d ∈ x.h :: x.t := by
  by_cases q : f r.h c = 0
  · have hdt : d ∈ r.t := by
      rcases List.mem_cons.1 hd with e | e
      · exact absurd ⟨e, q⟩ hn
      · exact e
    cases ht : r.t with
    | nil => rw [ht] at hdt; simp at hdt
    | cons a u =>
      refine ⟨⟨a, u, r.i⟩, List.mem_filterMap.2 ⟨r, hr, ?_⟩, rfl, by rw [ht] at hdt; exact hdt⟩
      unfold popR tlR
      rw [if_pos q, ht]
  · exact ⟨r, List.mem_filterMap.2 ⟨r, hr, by unfold popR; rw [if_neg q]⟩, rfl, hd⟩
theorem tld_hd (h : C3 f) {r : Rn α} {t : List (Rn α)} (hl : ∀ x ∈ r :: t, leR f r x) (hR : ∀ x ∈ r :: t, Rise f x) : Tld f (r :: t) r.h := by
  refine ⟨r, by simp, by simp, fun r' hr' hi e he q => ?_⟩
  have h1 := hl r' hr'
  unfold leR at h1
  have h2 := rise_le h (hR r' hr') he
  have h3 : f r.h r'.h < 0 := by omega
  have h4 := h.lt_le h3 h2
  have h5 := h.anti r.h e
  omega
theorem tld_le (h : C3 f) {r : Rn α} {t : List (Rn α)} (hl : ∀ x ∈ r :: t, leR f r x) (hR : ∀ x ∈ r :: t, Rise f x) (hD : Dst (r :: t)) {d : α} (hd : Tld f (r :: t) d) : d = r.h ∨ f r.h d < 0 := by
  obtain ⟨x, hx, hdx, hn⟩ := hd
  have h1 := hl x hx
  have h2 := rise_le h (hR x hx) hdx
  have h3 : f r.h x.h ≤ 0 := by unfold leR at h1; omega
  rcases Int.lt_or_le (f r.h d) 0 with q | q
  · exact .inr q
  · left
    have h4 : f r.h x.h = 0 := by
      rcases Int.lt_or_le (f r.h x.h) 0 with p | p
      · have := h.lt_le p h2; omega
      · omega
    have h5 : d = x.h := by
      rcases List.mem_cons.1 hdx with e | e
      · exact e
      · have := h.le_lt h3 ((List.pairwise_cons.1 (hR x hx)).1 d e)
        omega
    rcases List.mem_cons.1 hx with rfl | hxt
    · exact h5
    · have h6 : r.i ≠ x.i := (List.pairwise_cons.1 hD).1 x hxt
      unfold leR at h1
      exfalso
      refine hn r (by simp) (by omega) r.h (by simp) ?_
      rw [h5]
      exact h4
theorem tld_pop (h : C3 f) {r : Rn α} {t : List (Rn α)} (hl : ∀ x ∈ r :: t, leR f r x) (hR : ∀ x ∈ r :: t, Rise f x) (d : α) : Tld f (popA f r.h (r :: t)) d ↔ Tld f (r :: t) d ∧ f r.h d < 0 := by
  constructor
  · rintro ⟨x, hx, hd, hn⟩
    obtain ⟨r0, hr0, hi, hc⟩ := pop_mem hx
    have hlr := hl r0 hr0
    have hz : f r.h d < 0 ∧ d ∈ r0.h :: r0.t := by
      rcases hc with ⟨q, e⟩ | ⟨q, rfl⟩
      · rw [← e] at hd
        have h1 := (List.pairwise_cons.1 (hR r0 hr0)).1 d hd
        have h2 := h.anti r0.h r.h
        exact ⟨h.le_lt (by omega) h1, List.mem_cons_of_mem _ hd⟩
      · have h1 := rise_le h (hR x hr0) hd
        have h2 := h.anti x.h r.h
        unfold leR at hlr
        exact ⟨h.lt_le (by omega) h1, hd⟩
    refine ⟨⟨r0, hr0, hz.2, fun r' hr' hi' e he q => ?_⟩, hz.1⟩
    by_cases hp : e = r'.h ∧ f r'.h r.h = 0
    · obtain ⟨rfl, q2⟩ := hp
      have := h.anti r'.h r.h
      have h3 : f r'.h d < 0 := h.le_lt (by omega) hz.1
      omega
    · obtain ⟨x', hx', hi2, he2⟩ := pop_has hr' he hp
      exact hn x' hx' (by omega) e he2 q
  · rintro ⟨⟨r0, hr0, hd, hn⟩, hz⟩
    have hp : ¬ (d = r0.h ∧ f r0.h r.h = 0) := fun ⟨e, q⟩ => by
      subst e
      have := h.anti r0.h r.h
      omega
    obtain ⟨x, hx, hi, hdx⟩ := pop_has hr0 hd hp
    refine ⟨x, hx, hdx, fun r' hr' hi' e he => ?_⟩
    obtain ⟨r1, hr1, hi1, hc⟩ := pop_mem hr'
    refine hn r1 hr1 (by omega) e ?_
    rcases hc with ⟨_, q⟩ | ⟨_, rfl⟩
    · rw [← q] at he
      exact List.mem_cons_of_mem _ he
    · exact he
/-- The next one is ahead of what the others tell. -/
theorem mgo_cons (h : C3 f) {r : Rn α} {t : List (Rn α)} (hl : ∀ x ∈ r :: t, leR f r x) (hR : ∀ x ∈ r :: t, Rise f x) (hD : Dst (r :: t)) {l : List α} (hm : MgO f (popA f r.h (r :: t)) l) : MgO f (r :: t) (r.h :: l) := by
  refine ⟨List.pairwise_cons.2 ⟨fun d hd => ((tld_pop h hl hR d).1 ((hm.mem d).1 hd)).2, hm.rise⟩, fun d => ?_⟩
  constructor
  · intro hd
    rcases List.mem_cons.1 hd with rfl | hd
    · exact tld_hd h hl hR
    · exact ((tld_pop h hl hR d).1 ((hm.mem d).1 hd)).1
  · intro hd
    rcases tld_le h hl hR hD hd with rfl | q
    · simp
    · exact List.mem_cons_of_mem _ ((hm.mem d).2 ((tld_pop h hl hR d).2 ⟨hd, q⟩))
theorem mgo_uncons (h : C3 f) {r : Rn α} {t : List (Rn α)} (hl : ∀ x ∈ r :: t, leR f r x) (hR : ∀ x ∈ r :: t, Rise f x) (hD : Dst (r :: t)) {l : List α} (hm : MgO f (r :: t) l) : ∃ l', l = r.h :: l' ∧ MgO f (popA f r.h (r :: t)) l' := by
  have h0 := (hm.mem r.h).2 (tld_hd h hl hR)
  cases l with
  | nil => simp at h0
  | cons a l' =>
    obtain ⟨h1, h2⟩ := List.pairwise_cons.1 hm.rise
    have ha := (hm.mem a).1 (by simp)
    have e : a = r.h := by
      rcases tld_le h hl hR hD ha with e | q
      · exact e
      · rcases List.mem_cons.1 h0 with e | e
        · exact e.symm
        · have := h1 _ e
          have := h.anti a r.h
          omega
    subst e
    refine ⟨l', rfl, h2, fun d => ?_⟩
    rw [tld_pop h hl hR, ← hm.mem d]
    constructor
    · intro hd
      exact ⟨List.mem_cons_of_mem _ hd, h1 d hd⟩
    · rintro ⟨hd, q⟩
      rcases List.mem_cons.1 hd with rfl | hd
      · rw [h.zero] at q; omega
      · exact hd
theorem pop_rise {c : α} {H : List (Rn α)} (hR : ∀ x ∈ H, Rise f x) : ∀ x ∈ popA f c H, Rise f x := fun x hx => by
  obtain ⟨r, hr, _, hc⟩ := pop_mem hx
  rcases hc with ⟨_, e⟩ | ⟨_, rfl⟩
  · have := hR r hr
    unfold Rise at this
    rw [e] at this
    exact (List.pairwise_cons.1 this).2
  · exact hR _ hr
theorem dst_filter {g : Rn α → Option (Rn α)} (hg : ∀ r x, g r = some x → x.i = r.i) {H : List (Rn α)} (hD : Dst H) : Dst (H.filterMap g) := by
  unfold Dst
  rw [List.pairwise_filterMap]
  refine hD.imp fun hab x hx y hy => ?_
  rw [hg _ x hx, hg _ y hy]
  exact hab
theorem pop_dst {c : α} {H : List (Rn α)} (hD : Dst H) : Dst (popA f c H) := dst_filter (fun _ _ hx => by
  unfold popR at hx
  split at hx
  · unfold tlR at hx
    split at hx
    · cases hx
    · cases hx; rfl
  · cases hx; rfl) hD
theorem of_mem {l : List α} {i : Nat} {x : Rn α} : ofL l i = some x ↔ l = x.h :: x.t ∧ x.i = i := by
  cases l with
  | nil => exact ⟨fun h => (by cases h), fun ⟨h, _⟩ => (by cases h)⟩
  | cons a u =>
    constructor
    · intro h; cases h; exact ⟨rfl, rfl⟩
    · obtain ⟨xh, xt, xi⟩ := x
      rintro ⟨h, h2⟩
      dsimp only at h h2
      injection h with h3 h4
      subst h3 h4 h2
      rfl
theorem sk_mem {c : α} {H : List (Rn α)} {x : Rn α} (hx : x ∈ skA f c H) : ∃ r ∈ H, x.i = r.i ∧ x.h :: x.t = (r.h :: r.t).dropWhile fun y => decide (f y c < 0) := by
  unfold skA at hx
  obtain ⟨r, hr, he⟩ := List.mem_filterMap.1 hx
  unfold skR at he
  obtain ⟨h1, h2⟩ := of_mem.1 he
  exact ⟨r, hr, h2, h1.symm⟩
theorem drop_sorted (h : C3 f) {c d : α} : ∀ {l : List α}, (l.Pairwise fun a b => f a b < 0) → (d ∈ l.dropWhile (fun y => decide (f y c < 0)) ↔ d ∈ l ∧ ¬ f d c < 0)
  | [], _ => by simp
  | a :: u, hp => by
    obtain ⟨h1, h2⟩ := List.pairwise_cons.1 hp
    rw [List.dropWhile_cons]
    by_cases q : f a c < 0
    · rw [if_pos (by simpa using q), drop_sorted h h2]
      constructor
      · rintro ⟨p, p2⟩; exact ⟨List.mem_cons_of_mem _ p, p2⟩
      · rintro ⟨p, p2⟩
        rcases List.mem_cons.1 p with rfl | p
        · exact absurd q p2
        · exact ⟨p, p2⟩
    · rw [if_neg (by simpa using q)]
      refine ⟨fun p => ⟨p, fun q2 => ?_⟩, fun p => p.1⟩
      rcases List.mem_cons.1 p with rfl | p
      · exact q q2
      · have h3 := h1 d p
        exact q (h.lt_le h3 (by omega))
theorem sk_has (h : C3 f) {c : α} {H : List (Rn α)} {r : Rn α} (hr : r ∈ H) (hR : Rise f r) {d : α} (hd : d ∈ r.h :: r.t) (hn : ¬ f d c < 0) : ∃ x ∈ skA f c H, x.i = r.i ∧ d ∈ x.h :: x.t := by
  have h1 := (drop_sorted h hR).2 ⟨hd, hn⟩
  obtain ⟨a, u, e⟩ : ∃ a u, (r.h :: r.t).dropWhile (fun y => decide (f y c < 0)) = a :: u := by
    cases e : (r.h :: r.t).dropWhile (fun y => decide (f y c < 0)) with
    | nil => rw [e] at h1; simp at h1
    | cons a u => exact ⟨a, u, rfl⟩
  refine ⟨⟨a, u, r.i⟩, List.mem_filterMap.2 ⟨r, hr, ?_⟩, rfl, by rw [e] at h1; exact h1⟩
  unfold skR
  rw [e]
  rfl
theorem tld_sk (h : C3 f) {c : α} {H : List (Rn α)} (hR : ∀ x ∈ H, Rise f x) (d : α) : Tld f (skA f c H) d ↔ Tld f H d ∧ ¬ f d c < 0 := by
  constructor
  · rintro ⟨x, hx, hd, hn⟩
    obtain ⟨r, hr, hi, e⟩ := sk_mem hx
    rw [e] at hd
    obtain ⟨h1, h2⟩ := (drop_sorted h (hR r hr)).1 hd
    refine ⟨⟨r, hr, h1, fun r' hr' hi' y hy q => ?_⟩, h2⟩
    have h3 : ¬ f y c < 0 := fun q2 => by
      have := h.anti y d
      exact h2 (h.le_lt (by omega) q2)
    obtain ⟨x', hx', hi2, hy2⟩ := sk_has h hr' (hR r' hr') hy h3
    exact hn x' hx' (by omega) y hy2 q
  · rintro ⟨⟨r, hr, hd, hn⟩, h2⟩
    obtain ⟨x, hx, hi, hdx⟩ := sk_has h hr (hR r hr) hd h2
    refine ⟨x, hx, hdx, fun r' hr' hi' y hy => ?_⟩
    obtain ⟨r1, hr1, hi1, e⟩ := sk_mem hr'
    rw [e] at hy
    exact hn r1 hr1 (by omega) y ((drop_sorted h (hR r1 hr1)).1 hy).1
theorem mgo_sk (h : C3 f) {c : α} {H : List (Rn α)} (hR : ∀ x ∈ H, Rise f x) {l : List α} (hm : MgO f H l) : MgO f (skA f c H) (l.filter fun d => !decide (f d c < 0)) := by
  refine ⟨hm.rise.filter _, fun d => ?_⟩
  rw [tld_sk h hR, ← hm.mem d, List.mem_filter]
  simp
theorem sk_rise {c : α} {H : List (Rn α)} (hR : ∀ x ∈ H, Rise f x) : ∀ x ∈ skA f c H, Rise f x := fun x hx => by
  obtain ⟨r, hr, _, e⟩ := sk_mem hx
  unfold Rise
  rw [e]
  exact (hR r hr).sublist (List.dropWhile_sublist _)
theorem sk_dst {c : α} {H : List (Rn α)} (hD : Dst H) : Dst (skA f c H) := dst_filter (fun _ _ hx => (of_mem.1 hx).2) hD
/-- Runs by their places, of each its beginning. -/
def runsF (b : List α → List α) : Nat → List (List α) → List (Rn α)
  | _, [] => []
  | k, l :: t => (ofL (b l) k).toList ++ runsF b (k + 1) t
theorem runsF_snoc (b : List α → List α) : ∀ (k : Nat) (a : List (List α)) (l : List α), runsF b k (a ++ [l]) = runsF b k a ++ (ofL (b l) (k + a.length)).toList
  | k, [], l => by simp [runsF]
  | k, x :: a, l => by
    rw [List.cons_append, runsF, runsF_snoc b (k + 1) a l, runsF, List.append_assoc, List.length_cons, show k + 1 + a.length = k + (a.length + 1) by omega]
theorem runsF_mem (b : List α → List α) : ∀ (k : Nat) (a : List (List α)) (r : Rn α), r ∈ runsF b k a ↔ ∃ (j : Nat) (l : List α), a[j]? = some l ∧ b l = r.h :: r.t ∧ r.i = k + j
  | k, [], r => by simp [runsF]
  | k, x :: a, r => by
    rw [runsF, List.mem_append, Option.mem_toList, of_mem, runsF_mem b (k + 1) a r]
    constructor
    · rintro (⟨h1, h2⟩ | ⟨j, l, h1, h2, h3⟩)
      · exact ⟨0, x, rfl, h1, h2⟩
      · exact ⟨j + 1, l, h1, h2, by omega⟩
    · rintro ⟨j, l, h1, h2, h3⟩
      cases j with
      | zero => cases h1; exact .inl ⟨h2, h3⟩
      | succ j => exact .inr ⟨j, l, h1, h2, by omega⟩
theorem runsF_dst (b : List α → List α) : ∀ (k : Nat) (a : List (List α)), Dst (runsF b k a)
  | k, [] => List.Pairwise.nil
  | k, x :: a => by
    refine List.pairwise_append.2 ⟨?_, runsF_dst b (k + 1) a, fun y hy z hz => ?_⟩
    · cases ofL (b x) k <;> simp
    · rw [Option.mem_toList, of_mem] at hy
      obtain ⟨j, l, _, _, h3⟩ := (runsF_mem b (k + 1) a z).1 hz
      have := hy.2
      omega
theorem runsF_rise (b : List α → List α) (hb : ∀ l, (b l).Pairwise fun x y => f x y < 0) (k : Nat) (a : List (List α)) : ∀ r ∈ runsF b k a, Rise f r := fun r hr => by
  obtain ⟨j, l, _, h2, _⟩ := (runsF_mem b k a r).1 hr
  unfold Rise
  rw [← h2]
  exact hb l
/-- What runs tell, by the runs themselves. -/
theorem tld_runs (b : List α → List α) (a : List (List α)) (d : α) : Tld f (runsF b 0 a) d ↔ ∃ (j : Nat) (l : List α), a[j]? = some l ∧ d ∈ b l ∧ ∀ (j' : Nat) (l' : List α), j' < j → a[j']? = some l' → ∀ e ∈ b l', f e d ≠ 0 := by
  constructor
  · rintro ⟨r, hr, hd, hn⟩
    obtain ⟨j, l, h1, h2, h3⟩ := (runsF_mem b 0 a r).1 hr
    refine ⟨j, l, h1, by rw [h2]; exact hd, fun j' l' hj hl e he => ?_⟩
    obtain ⟨x, u, hx⟩ : ∃ x u, b l' = x :: u := by
      cases hx : b l' with
      | nil => rw [hx] at he; simp at he
      | cons x u => exact ⟨x, u, rfl⟩
    refine hn ⟨x, u, j'⟩ ((runsF_mem b 0 a _).2 ⟨j', l', hl, hx, by simp⟩) (by dsimp only; omega) e (by rw [hx] at he; exact he)
  · rintro ⟨j, l, h1, hd, hn⟩
    obtain ⟨x, u, hx⟩ : ∃ x u, b l = x :: u := by
      cases hx : b l with
      | nil => rw [hx] at hd; simp at hd
      | cons x u => exact ⟨x, u, rfl⟩
    refine ⟨⟨x, u, j⟩, (runsF_mem b 0 a _).2 ⟨j, l, h1, hx, by simp⟩, by rw [hx] at hd; exact hd, fun r' hr' hi e he => ?_⟩
    obtain ⟨j', l', h1', h2', h3'⟩ := (runsF_mem b 0 a r').1 hr'
    exact hn j' l' (by dsimp only at hi; omega) h1' e (by rw [h2']; exact he)
/-- Is a cell ahead of another one, if there is one? -/
def ahdB (f : α → α → Int) : Option α → α → Bool
  | none, _ => true
  | some x, c => decide (f x c < 0)
/-- How many of the first cells are a run, behind a cell or none. -/
def begN (f : α → α → Int) (ok : α → Bool) : Option α → List α → Nat
  | _, [] => 0
  | p, c :: t => if (ok c && ahdB f p c) = true then begN f ok (some c) t + 1 else 0
def begG (f : α → α → Int) (ok : α → Bool) (l : List α) : List α := l.take (begN f ok none l)
theorem begN_le (ok : α → Bool) : ∀ (p : Option α) (l : List α), begN f ok p l ≤ l.length
  | _, [] => Nat.le_refl _
  | p, c :: t => by
    rw [begN]
    split
    · have := begN_le ok (some c) t
      rw [List.length_cons]
      omega
    · exact Nat.zero_le _
theorem begN_all (h : C3 f) (ok : α → Bool) : ∀ (p : Option α) (l : List α), (∀ d ∈ l.take (begN f ok p l), ok d = true ∧ ∀ x, p = some x → f x d < 0) ∧ (l.take (begN f ok p l)).Pairwise fun a b => f a b < 0
  | p, [] => ⟨fun d hd => by simp at hd, by simp⟩
  | p, c :: t => by
    rw [begN]
    split
    · rename_i q
      rw [Bool.and_eq_true] at q
      obtain ⟨q1, q2⟩ := q
      obtain ⟨i1, i2⟩ := begN_all h ok (some c) t
      rw [List.take_succ_cons]
      refine ⟨fun d hd => ?_, List.pairwise_cons.2 ⟨fun d hd => (i1 d hd).2 c rfl, i2⟩⟩
      have hc : ∀ x, p = some x → f x c < 0 := fun x hx => by
        subst hx
        simpa [ahdB] using q2
      rcases List.mem_cons.1 hd with rfl | hd
      · exact ⟨q1, hc⟩
      · exact ⟨(i1 d hd).1, fun x hx => h.lt_le (hc x hx) (Int.le_of_lt ((i1 d hd).2 c rfl))⟩
    · exact ⟨fun d hd => by simp at hd, by simp⟩
theorem begN_full (ok : α → Bool) : ∀ (p : Option α) (l : List α), (∀ d ∈ l, ok d = true ∧ ∀ x, p = some x → f x d < 0) → (l.Pairwise fun a b => f a b < 0) → begN f ok p l = l.length
  | _, [], _, _ => rfl
  | p, c :: t, h1, h2 => by
    obtain ⟨h3, h4⟩ := List.pairwise_cons.1 h2
    have hc := h1 c (by simp)
    rw [begN, if_pos, begN_full ok (some c) t (fun d hd => ⟨(h1 d (List.mem_cons_of_mem _ hd)).1, fun x hx => by cases hx; exact h3 d hd⟩) h4, List.length_cons]
    rw [Bool.and_eq_true]
    refine ⟨hc.1, ?_⟩
    cases p with
    | none => rfl
    | some x => simpa [ahdB] using hc.2 x rfl
theorem begG_rise (h : C3 f) (ok : α → Bool) (l : List α) : (begG f ok l).Pairwise fun a b => f a b < 0 := (begN_all h ok none l).2
/-- A run: right cells that rise. -/
def Run (f : α → α → Int) (ok : α → Bool) (l : List α) : Prop := (∀ d ∈ l, ok d = true) ∧ l.Pairwise fun a b => f a b < 0
theorem begG_run (ok : α → Bool) {l : List α} (h : Run f ok l) : begG f ok l = l := by
  unfold begG
  rw [begN_full ok none l (fun d hd => ⟨h.1 d hd, fun x hx => by cases hx⟩) h.2, List.take_length]
/-- What runs tell. -/
def MgR (f : α → α → Int) (ok : α → Bool) (rs : List (List α)) (l : List α) : Prop := MgO f (runsF (begG f ok) 0 rs) l
theorem tld_run (ok : α → Bool) {rs : List (List α)} (hr : ∀ l ∈ rs, Run f ok l) (d : α) : Tld f (runsF (begG f ok) 0 rs) d ↔ ∃ (j : Nat) (l : List α), rs[j]? = some l ∧ d ∈ l ∧ ∀ (j' : Nat) (l' : List α), j' < j → rs[j']? = some l' → ∀ e ∈ l', f e d ≠ 0 := by
  rw [tld_runs]
  constructor
  · rintro ⟨j, l, h1, h2, h3⟩
    rw [begG_run ok (hr l (List.mem_of_getElem? h1))] at h2
    exact ⟨j, l, h1, h2, fun j' l' hj hl e he => h3 j' l' hj hl e (by rw [begG_run ok (hr l' (List.mem_of_getElem? hl))]; exact he)⟩
  · rintro ⟨j, l, h1, h2, h3⟩
    refine ⟨j, l, h1, by rw [begG_run ok (hr l (List.mem_of_getElem? h1))]; exact h2, fun j' l' hj hl e he => h3 j' l' hj hl e ?_⟩
    rw [begG_run ok (hr l' (List.mem_of_getElem? hl))] at he
    exact he
theorem mgr_run (ok : α → Bool) {rs : List (List α)} (hr : ∀ l ∈ rs, Run f ok l) {l : List α} (h : MgR f ok rs l) : Run f ok l :=
  ⟨fun d hd => by
    obtain ⟨j, r, h1, h2, _⟩ := (tld_run ok hr d).1 ((h.mem d).1 hd)
    exact (hr r (List.mem_of_getElem? h1)).1 d h2, h.rise⟩
theorem mgo_uniq (h : C3 f) {H : List (Rn α)} {l m : List α} (h1 : MgO f H l) (h2 : MgO f H m) : l = m := by
  have nd : ∀ {k : List α}, (k.Pairwise fun x y => f x y < 0) → k.Nodup := fun hm => hm.imp fun hab e => by
    subst e
    rw [h.zero] at hab
    omega
  refine List.Perm.eq_of_pairwise (le := fun x y => f x y < 0) (fun a b _ _ hab hba => ?_) h1.rise h2.rise ((List.perm_ext_iff_of_nodup (nd h1.rise) (nd h2.rise)).2 fun d => (h1.mem d).trans (h2.mem d).symm)
  have := h.anti a b
  omega
/-- Of each place that a run has one cell is told. -/
theorem told_place (h : C3 f) {rs : List (List α)} : ∀ (n j : Nat) (l : List α) (e : α), j ≤ n → rs[j]? = some l → e ∈ l → ∃ (k : Nat) (m : List α) (d : α), rs[k]? = some m ∧ d ∈ m ∧ f d e = 0 ∧ ∀ (j' : Nat) (l' : List α), j' < k → rs[j']? = some l' → ∀ x ∈ l', f x d ≠ 0
  | n, j, l, e, hj, h1, h2 => by
    by_cases q : ∃ (j' : Nat) (l' : List α) (x : α), j' < j ∧ rs[j']? = some l' ∧ x ∈ l' ∧ f x e = 0
    · obtain ⟨j', l', x, p1, p2, p3, p4⟩ := q
      cases n with
      | zero => omega
      | succ n =>
        obtain ⟨k, m, d, d1, d2, d3, d4⟩ := told_place h n j' l' x (by omega) p2 p3
        refine ⟨k, m, d, d1, d2, ?_, d4⟩
        have a1 := h.anti x e
        have a2 := h.anti d x
        have a3 := h.anti d e
        have t1 := h.tr d x e (by omega) (by omega)
        have t2 := h.tr e x d (by omega) (by omega)
        omega
    · exact ⟨j, l, e, h1, h2, h.zero e, fun j' l' p1 p2 x p3 p4 => q ⟨j', l', x, p1, p2, p3, p4⟩⟩
/-- Runs can be made one in parts. -/
theorem parts_all (h : C3 f) (ok : α → Bool) {rs : List (List α)} (hr : ∀ l ∈ rs, Run f ok l) (n : Nat) {a b l : List α} (ha : MgR f ok (rs.take n) a) (hb : MgR f ok (rs.drop n) b) (hl : MgR f ok [a, b] l) : MgR f ok rs l := by
  have hra : ∀ l ∈ rs.take n, Run f ok l := fun l hl => hr l (List.mem_of_mem_take hl)
  have hrb : ∀ l ∈ rs.drop n, Run f ok l := fun l hl => hr l (List.mem_of_mem_drop hl)
  have hab : ∀ l ∈ [a, b], Run f ok l := fun l hl => by
    rcases List.mem_cons.1 hl with rfl | hl
    · exact mgr_run ok hra ha
    · rcases List.mem_cons.1 hl with rfl | hl
      · exact mgr_run ok hrb hb
      · simp at hl
  refine ⟨hl.rise, fun d => (hl.mem d).trans ?_⟩
  rw [tld_run ok hab, tld_run ok hr]
  have ma : ∀ d, d ∈ a ↔ _ := fun d => (ha.mem d).trans (tld_run ok hra d)
  have mb : ∀ d, d ∈ b ↔ _ := fun d => (hb.mem d).trans (tld_run ok hrb d)
  have tk : ∀ {j : Nat} {x : List α}, (rs.take n)[j]? = some x ↔ j < n ∧ rs[j]? = some x := fun {j x} => by
    rw [List.getElem?_take]
    by_cases q : j < n
    · rw [if_pos q]; exact ⟨fun e => ⟨q, e⟩, fun e => e.2⟩
    · rw [if_neg q]; exact ⟨fun e => (by cases e), fun e => absurd e.1 q⟩
  constructor
  · rintro ⟨j, x, h1, h2, h3⟩
    match j, h1 with
    | 0, h1 =>
      cases h1
      obtain ⟨j, x, h4, h5, h6⟩ := (ma d).1 h2
      obtain ⟨h7, h8⟩ := tk.1 h4
      exact ⟨j, x, h8, h5, fun j' l' hj hl e he => h6 j' l' hj (tk.2 ⟨by omega, hl⟩) e he⟩
    | 1, h1 =>
      cases h1
      obtain ⟨j, x, h4, h5, h6⟩ := (mb d).1 h2
      rw [List.getElem?_drop] at h4
      refine ⟨n + j, x, h4, h5, fun j' l' hj hl' e he q => ?_⟩
      by_cases p : j' < n
      · obtain ⟨k, m, y, d1, d2, d3, d4⟩ := told_place h j' j' l' e (Nat.le_refl _) (tk.2 ⟨p, hl'⟩) he
        have hy := (ma y).2 ⟨k, m, d1, d2, d4⟩
        refine h3 0 a (by omega) rfl y hy ?_
        have a1 := h.anti e d
        have a2 := h.anti y e
        have a3 := h.anti y d
        have t1 := h.tr y e d (by omega) (by omega)
        have t2 := h.tr d e y (by omega) (by omega)
        omega
      · refine h6 (j' - n) l' (by omega) ?_ e he q
        rw [List.getElem?_drop, show n + (j' - n) = j' by omega]
        exact hl'
    | j + 2, h1 => simp at h1
  · rintro ⟨j, x, h1, h2, h3⟩
    by_cases p : j < n
    · exact ⟨0, a, rfl, (ma d).2 ⟨j, x, tk.2 ⟨p, h1⟩, h2, fun j' l' hj hl e he => h3 j' l' hj (tk.1 hl).2 e he⟩, fun j' l' hj => absurd hj (by omega)⟩
    · refine ⟨1, b, rfl, (mb d).2 ⟨j - n, x, by rw [List.getElem?_drop, show n + (j - n) = j by omega]; exact h1, h2, fun j' l' hj hl e he => ?_⟩, fun j' l' hj hl e he => ?_⟩
      · rw [List.getElem?_drop] at hl
        exact h3 (n + j') l' (by omega) hl e he
      · obtain rfl : j' = 0 := by omega
        cases hl
        obtain ⟨k, m, d1, d2, _⟩ := (ma e).1 he
        obtain ⟨d3, d4⟩ := tk.1 d1
        exact h3 k m (by omega) d4 e d2
/-- A run, split and made one again. -/
theorem halves_all (h : C3 f) (ok : α → Bool) {s a b l : List α} (hs : Run f ok s) (ha : a.Sublist s) (hb : b.Sublist s) (hab : ∀ d ∈ s, d ∈ a ∨ d ∈ b) (hn : ∀ d ∈ a, d ∉ b) (hl : MgR f ok [a, b] l) : l = s := by
  have hra : Run f ok a := ⟨fun d hd => hs.1 d (ha.subset hd), hs.2.sublist ha⟩
  have hrb : Run f ok b := ⟨fun d hd => hs.1 d (hb.subset hd), hs.2.sublist hb⟩
  have hr : ∀ l ∈ [a, b], Run f ok l := fun l hl => by
    rcases List.mem_cons.1 hl with rfl | hl
    · exact hra
    · rcases List.mem_cons.1 hl with rfl | hl
      · exact hrb
      · simp at hl
  have hne : ∀ {s : List α} (_ : s.Pairwise fun x y => f x y < 0) (x y : α), x ∈ s → y ∈ s → f x y = 0 → x = y := by
    intro s
    induction s with
    | nil => intro _ x y hx; simp at hx
    | cons c t ih =>
      intro hp x y hx hy e
      obtain ⟨h1, h2⟩ := List.pairwise_cons.1 hp
      rcases List.mem_cons.1 hx with e1 | hx <;> rcases List.mem_cons.1 hy with e2 | hy
      · rw [e1, e2]
      · have := h1 _ hy; rw [e1] at e; omega
      · have := h1 _ hx; have := h.anti x y; rw [e2] at this e; omega
      · exact ih h2 x y hx hy e
  refine mgo_uniq h (H := runsF (begG f ok) 0 [a, b]) hl ⟨hs.2, fun d => ?_⟩
  rw [tld_run ok hr]
  constructor
  · intro hd
    rcases Classical.em (d ∈ a) with q | q
    · exact ⟨0, a, rfl, q, fun j' l' hj => absurd hj (by omega)⟩
    · rcases hab d hd with p | p
      · exact absurd p q
      · refine ⟨1, b, rfl, p, fun j' l' hj hl e he z => ?_⟩
        obtain rfl : j' = 0 := by omega
        cases hl
        have := hne hs.2 e d (ha.subset he) hd z
        subst this
        exact q he
  · rintro ⟨j, x, h1, h2, _⟩
    match j, h1 with
    | 0, h1 => cases h1; exact ha.subset h2
    | 1, h1 => cases h1; exact hb.subset h2
    | j + 2, h1 => simp at h1
end
end Go.Proofs.YtgfkobfkncpmoaaDoor
