/- Several texts in one: JC JD. Conditions: as each theorem names them. -/
import Derived.Test.YtpjkhholpbfbpaaDoorIB
/- What sorted cells are: they rise, and hold just the right cells behind which no right cell of their place stands. -/
namespace Go.Proofs.YtpjkhholpbfbpaaDoor
open Go.RowKit

/-- c stands in f, and none of its place behind it. -/
def LastIn (f : List CT) (c : CT) : Prop := ∃ a b, f = a ++ c :: b ∧ ∀ d ∈ b, CT.cmp c d ≠ 0

theorem lasts_iff : ∀ (m : List CT), m.Pairwise (fun x y => CT.cmp x y ≤ 0) → ∀ c, c ∈ lastsM m ↔ LastIn m c
  | [], _, c => ⟨(fun h => by cases h), (fun ⟨a, b, h, _⟩ => by cases a <;> cases h)⟩
  | [x], _, c => by
    constructor
    · intro h
      rcases List.mem_singleton.1 h with rfl
      exact ⟨[], [], rfl, fun d hd => by cases hd⟩
    · rintro ⟨a, b, h, _⟩
      cases a with
      | nil => cases h; exact List.mem_singleton.2 rfl
      | cons y a => injection h with h1 h2; cases a <;> cases h2
  | x :: y :: t, hp, c => by
    obtain ⟨hx, hp'⟩ := List.pairwise_cons.1 hp
    obtain ⟨hy, _⟩ := List.pairwise_cons.1 hp'
    have ih := lasts_iff (y :: t) hp' c
    show c ∈ (if CT.cmp x y = 0 then lastsM (y :: t) else x :: lastsM (y :: t)) ↔ _
    have push : LastIn (y :: t) c → LastIn (x :: y :: t) c := fun ⟨a, b, h, hb⟩ => ⟨x :: a, b, by rw [h]; rfl, hb⟩
    have pull : LastIn (x :: y :: t) c → LastIn (y :: t) c ∨ (c = x ∧ ∀ d ∈ y :: t, CT.cmp c d ≠ 0) := fun ⟨a, b, h, hb⟩ => by
      cases a with
      | nil => injection h with h1 h2; subst h1; rw [h2]; exact .inr ⟨rfl, hb⟩
      | cons z a => injection h with h1 h2; exact .inl ⟨a, b, h2, hb⟩
    by_cases e : CT.cmp x y = 0
    · rw [if_pos e, ih]
      refine ⟨push, fun h => ?_⟩
      rcases pull h with h | ⟨rfl, h2⟩
      · exact h
      · exact absurd e (h2 y List.mem_cons_self)
    · rw [if_neg e, List.mem_cons, ih]
      constructor
      · rintro (rfl | h)
        · refine ⟨[], y :: t, rfl, fun d hd => ?_⟩
          have hxy : CT.cmp c y < 0 := by have := hx y List.mem_cons_self; omega
          rcases List.mem_cons.1 hd with rfl | hd
          · exact e
          · have := ct_c3.lt_le hxy (hy d hd); omega
        · exact push h
      · intro h
        rcases pull h with h | ⟨rfl, _⟩
        · exact .inr h
        · exact .inl rfl
theorem last_zip {f : List CT} {c : CT} : LastIn f c ↔ ∃ t, (c, t) ∈ f.zipIdx ∧ ∀ d u, (d, u) ∈ f.zipIdx → t < u → CT.cmp c d ≠ 0 := by
  constructor
  · rintro ⟨a, b, rfl, hb⟩
    refine ⟨a.length, ?_, fun d u hd hu => ?_⟩
    · rw [List.mk_mem_zipIdx_iff_getElem?]; simp
    · rw [List.mk_mem_zipIdx_iff_getElem?, List.getElem?_append_right (by omega)] at hd
      obtain ⟨k, hk⟩ : ∃ k, u - a.length = k + 1 := ⟨u - a.length - 1, by omega⟩
      rw [hk, List.getElem?_cons_succ] at hd
      exact hb d (List.mem_of_getElem? hd)
  · rintro ⟨t, ht, h⟩
    rw [List.mk_mem_zipIdx_iff_getElem?] at ht
    obtain ⟨hlt, hc⟩ := List.getElem?_eq_some_iff.1 ht
    refine ⟨f.take t, f.drop (t + 1), ?_, fun d hd => ?_⟩
    · rw [← hc, ← List.drop_eq_getElem_cons hlt, List.take_append_drop]
    · obtain ⟨k, hk, rfl⟩ := List.getElem_of_mem hd
      rw [List.getElem_drop]
      refine h _ (t + 1 + k) ?_ (by omega)
      rw [List.mk_mem_zipIdx_iff_getElem?]
      exact List.getElem?_eq_getElem _
theorem stb_last {f : List CT} {l' : List TT} (h : StbL f l') (c : CT) : LastIn (l'.map Prod.fst) c ↔ LastIn f c := by
  have hs : Sort.SWO (ltOf tcF) := c3_swo tc3
  have c0 : ∀ x y : TT, CT.cmp x.1 y.1 = 0 → ltOf tcF x y = false ∧ ltOf tcF y x = false := fun x y e => by
    have a := ct_c3.anti x.1 y.1
    constructor
    · show decide (CT.cmp x.1 y.1 < 0) = false
      exact decide_eq_false (by omega)
    · show decide (CT.cmp y.1 x.1 < 0) = false
      exact decide_eq_false (by omega)
  rw [last_zip (f := f)]
  constructor
  · rintro ⟨a, b, hm, hb⟩
    obtain ⟨a', b', rfl, rfl, hcb⟩ := List.map_eq_append_iff.1 hm
    obtain ⟨x, b'', rfl, rfl, rfl⟩ := List.map_eq_cons_iff.1 hcb
    refine ⟨x.2, h.perm.mem_iff.1 (by simp), fun d u hd hu e => ?_⟩
    have hd := h.perm.mem_iff.2 hd
    obtain ⟨p1, p2, p3⟩ := List.pairwise_append.1 h.sorted
    rcases List.mem_append.1 hd with hd | hd
    · have := p3 _ hd x List.mem_cons_self
      obtain ⟨q1, q2⟩ := c0 x (d, u) e
      rcases this with q | ⟨_, q⟩
      · rw [q] at q2; cases q2
      · have q : u < x.2 := q; omega
    · rcases List.mem_cons.1 hd with rfl | hd
      · exact absurd hu (Nat.lt_irrefl _)
      · exact hb d (List.mem_map.2 ⟨(d, u), hd, rfl⟩) e
  · rintro ⟨t, ht, hl⟩
    have ht := h.perm.mem_iff.2 ht
    obtain ⟨a, b, rfl⟩ := List.append_of_mem ht
    refine ⟨a.map Prod.fst, b.map Prod.fst, by simp, fun d hd e => ?_⟩
    obtain ⟨y, hy, rfl⟩ := List.mem_map.1 hd
    obtain ⟨_, p2, _⟩ := List.pairwise_append.1 h.sorted
    have hq := (List.pairwise_cons.1 p2).1 y hy
    obtain ⟨q1, q2⟩ := c0 (c, t) y e
    rcases hq with q | ⟨_, q⟩
    · rw [q] at q1; cases q1
    · exact hl y.1 y.2 (h.perm.mem_iff.1 (by simp [hy])) q e
/-- What sorted cells hold. -/
theorem SortOf.holds {l s : List CT} (h : SortOf l s) (c : CT) : c ∈ s ↔ LastIn (l.filter CT.ok) c := by
  obtain ⟨l', h1, rfl⟩ := h
  rw [lasts_iff _ h1.le, stb_last h1]
/-- Two lists that rise and hold the same are one. -/
theorem rise_uniq {s t : List CT} (h1 : s.Pairwise (fun x y => CT.cmp x y < 0)) (h2 : t.Pairwise (fun x y => CT.cmp x y < 0)) (h : ∀ c, c ∈ s ↔ c ∈ t) : s = t := by
  have nd : ∀ {m : List CT}, m.Pairwise (fun x y => CT.cmp x y < 0) → m.Nodup := fun hm => hm.imp fun {a b} hab e => by
    subst e
    have := ct_c3.zero a
    omega
  refine List.Perm.eq_of_pairwise (le := fun x y => CT.cmp x y < 0) (fun a b _ _ hab hba => ?_) h1 h2 ((List.perm_ext_iff_of_nodup (nd h1) (nd h2)).2 h)
  have := ct_c3.anti a b
  omega
end Go.Proofs.YtpjkhholpbfbpaaDoor

/- Sorted cells of a part of the places. -/
namespace Go.Proofs.YtpjkhholpbfbpaaDoor
open Go.RowKit

theorem last_filter {f : List CT} {P : CT → Bool} (hP : ∀ x y, CT.cmp x y = 0 → P x = P y) (c : CT) : LastIn (f.filter P) c ↔ LastIn f c ∧ P c = true := by
  constructor
  · rintro ⟨a, b, h, hb⟩
    obtain ⟨l1, l2, rfl, h1, h2⟩ := List.filter_eq_append_iff.1 h
    obtain ⟨m1, m2, rfl, hm, hc, h3⟩ := List.filter_eq_cons_iff.1 h2
    refine ⟨⟨l1 ++ m1, m2, by simp, fun d hd e => ?_⟩, hc⟩
    refine hb d ?_ e
    rw [← h3]
    exact List.mem_filter.2 ⟨hd, by rw [← hP c d e]; exact hc⟩
  · rintro ⟨⟨a, b, rfl, hb⟩, hc⟩
    refine ⟨a.filter P, b.filter P, by rw [List.filter_append, List.filter_cons, if_pos hc], fun d hd => hb d (List.mem_filter.1 hd).1⟩
/-- Sorting the cells of a part of the places is taking that part of the sorted ones. -/
theorem SortOf.part {l s t : List CT} {P : CT → Bool} (hP : ∀ x y, CT.cmp x y = 0 → P x = P y) (h : SortOf l s) (h2 : SortOf (l.filter P) t) : t = s.filter P := by
  refine rise_uniq h2.rise (h.rise.filter _) fun c => ?_
  rw [h2.holds, List.mem_filter, h.holds, ← last_filter hP]
  rw [show (l.filter P).filter CT.ok = (l.filter CT.ok).filter P by rw [List.filter_filter, List.filter_filter]; congr 1; funext x; exact Bool.and_comm _ _]
/-- Sorting a list that holds the same right cells, no two of one place, gives the same. -/
theorem SortOf.apart {l m s t : List CT} (h : SortOf l s) (h2 : SortOf m t) (hm : m.Perm s) (hr : ∀ c ∈ s, c.ok = true) : t = s := by
  refine rise_uniq h2.rise h.rise fun c => ?_
  have hok : m.filter CT.ok = m := List.filter_eq_self.2 fun x hx => hr x (hm.mem_iff.1 hx)
  rw [h2.holds, hok]
  have nd : ∀ a b : CT, a ∈ s → b ∈ s → CT.cmp a b = 0 → a = b := fun a b ha hb e => by
    obtain ⟨p, q, rfl⟩ := List.append_of_mem ha
    obtain ⟨r1, r2, r3⟩ := List.pairwise_append.1 h.rise
    rcases List.mem_append.1 hb with hb | hb
    · have := r3 b hb a List.mem_cons_self
      have := ct_c3.anti a b
      omega
    · rcases List.mem_cons.1 hb with rfl | hb
      · rfl
      · have := (List.pairwise_cons.1 r2).1 b hb
        omega
  have ndm : m.Nodup := hm.nodup_iff.2 (h.rise.imp fun {a b} hab e => by
    subst e
    have := ct_c3.zero a
    omega)
  constructor
  · rintro ⟨a, b, rfl, _⟩
    exact hm.mem_iff.1 (by simp)
  · intro hc
    obtain ⟨a, b, rfl⟩ := List.append_of_mem (hm.mem_iff.2 hc)
    refine ⟨a, b, rfl, fun d hd e => ?_⟩
    have hd2 : d ∈ s := hm.mem_iff.1 (by simp [hd])
    have := nd c d hc hd2 e
    subst this
    have h3 := (List.nodup_append.1 ndm).2.1
    exact (List.nodup_cons.1 h3).1 hd
end Go.Proofs.YtpjkhholpbfbpaaDoor
