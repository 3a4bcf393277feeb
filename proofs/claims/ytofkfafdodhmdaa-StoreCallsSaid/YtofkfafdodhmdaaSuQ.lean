/- How many bytes don't last, sizes, a file's bytes: our files and the document's. Conditions: none. -/
import Derived.Test.YtofkfafdodhmdaaMB
namespace Go.Proofs.Ytofkfafdodhmdaa
open Go.RowKit

theorem sum_two {α : Type} (f g : α → Nat) : ∀ l : List α, (l.map fun x => f x + g x).sum = (l.map f).sum + (l.map g).sum
  | [] => rfl
  | a :: t => by simp only [List.map_cons, List.sum_cons, sum_two f g t]; omega
theorem sum_congr {α : Type} {f g : α → Nat} : ∀ {l : List α}, (∀ x ∈ l, f x = g x) → (l.map f).sum = (l.map g).sum
  | [], _ => rfl
  | a :: t, h => by simp only [List.map_cons, List.sum_cons]; rw [h a List.mem_cons_self, sum_congr fun x hx => h x (List.mem_cons_of_mem _ hx)]
theorem sum_zero {α : Type} {f : α → Nat} : ∀ {l : List α}, (∀ x ∈ l, f x = 0) → (l.map f).sum = 0
  | [], _ => rfl
  | a :: t, h => by simp only [List.map_cons, List.sum_cons]; rw [h a List.mem_cons_self, sum_zero fun x hx => h x (List.mem_cons_of_mem _ hx)]
theorem ind_zero {n : Nat} : ∀ {ns : List Nat}, n ∉ ns → (ns.map fun k => if n = k then 1 else 0).sum = 0
  | [], _ => rfl
  | a :: t, h => by
    rw [List.map_cons, List.sum_cons, if_neg (fun e => h (by rw [e]; exact List.mem_cons_self)), ind_zero fun q => h (List.mem_cons_of_mem _ q)]
theorem ind_one {n : Nat} : ∀ {ns : List Nat}, ns.Nodup → n ∈ ns → (ns.map fun k => if n = k then 1 else 0).sum = 1
  | a :: t, h, hn => by
    obtain ⟨h1, h2⟩ := List.nodup_cons.1 h
    rw [List.map_cons, List.sum_cons]
    by_cases q : n = a
    · subst q
      rw [if_pos rfl, ind_zero h1]
    · rw [if_neg q]
      rcases List.mem_cons.1 hn with e | e
      · exact absurd e q
      · rw [ind_one h2 e]
theorem byOf_cons (z : Lz) (lt : List Lz) (n : Nat) : (byOf (z :: lt) n).length = (if z.no = n then 1 else 0) + (byOf lt n).length := by
  unfold byOf
  rw [List.filter_cons]
  unfold isNo
  by_cases q : z.no = n
  · rw [if_pos (decide_eq_true q), if_pos q, List.map_cons, List.length_cons, Nat.add_comm]
  · rw [if_neg (by simpa using q), if_neg q, Nat.zero_add]
/-- Each byte that doesn't last is one file's. -/
theorem by_all {ns : List Nat} (hn : ns.Nodup) : ∀ {lt : List Lz}, (∀ z ∈ lt, z.no ∈ ns) → (ns.map fun n => (byOf lt n).length).sum = lt.length
  | [], _ => sum_zero fun n _ => rfl
  | z :: lt, h => by
    rw [sum_congr (g := fun n => (if z.no = n then 1 else 0) + (byOf lt n).length) (fun n _ => byOf_cons z lt n), sum_two, ind_one hn (h z List.mem_cons_self), by_all hn fun y hy => h y (List.mem_cons_of_mem _ hy), List.length_cons, Nat.add_comm]
theorem ag_by {ps : Ps} {lt : List Lz} {u nx : Nat} (h : Ag ps lt u nx) : (ps.map fun p => (byOf lt p.2).length).sum = lt.length := by
  have := by_all h.nd (lt := lt) fun z hz => by
    obtain ⟨_, p, hp, e⟩ := h.lo z hz
    rw [← e]
    exact List.mem_map_of_mem hp
  rw [List.map_map] at this
  exact this
theorem ag_loose {ps : Ps} {lt : List Lz} {u nx : Nat} (h : Ag ps lt u nx) : looseV (ps.map Prod.fst) = lt.length := by
  rw [← ag_by h]
  unfold looseV
  rw [List.map_map]
  refine sum_congr fun p hp => ?_
  obtain ⟨_, h2, _⟩ := h.f p hp
  rw [h2, List.length_drop]
  rfl
theorem ag_size {ps : Ps} {lt : List Lz} {u nx : Nat} (h : Ag ps lt u nx) : sizeV (ps.map Prod.fst) = lt.length + ((ps.map mkR).map fun r => r.s.length).sum := by
  rw [← ag_by h, List.map_map, ← sum_two]
  unfold sizeV
  rw [List.map_map]
  refine sum_congr fun p hp => ?_
  obtain ⟨h1, h2, _⟩ := h.f p hp
  show p.1.d.length = _ + (p.1.d.take p.1.m).length
  rw [h2, List.length_drop, List.length_take]
  omega
/-- A byte that doesn't last, as the document has it. -/
def lzm (z : Lz) : Lm := (z.no, z.x)
theorem bytesM_lz (lt : List Lz) (no : Nat) : bytesM (lt.map lzm) no = byOf lt no := by
  unfold bytesM byOf
  rw [List.filter_map, List.map_map]
  rfl
theorem outM_lz (lt : List Lz) (no : Nat) : outM (lt.map lzm) no = (outZ lt no).map lzm := by
  unfold outM outZ
  rw [List.filter_map]
  rfl
theorem ms_mid {A C : Ps} {p : Fv × Nat} {ms : List Rm} (h : ms.map Rm.r = (A ++ p :: C).map mkR) : ∃ P m Q, ms = P ++ m :: Q ∧ P.map Rm.r = A.map mkR ∧ m.r = mkR p ∧ Q.map Rm.r = C.map mkR := by
  rw [List.map_append, List.map_cons] at h
  obtain ⟨P, T, rfl, h1, h2⟩ := List.map_eq_append_iff.1 h
  obtain ⟨m, Q, rfl, h3, h4⟩ := List.map_eq_cons_iff.1 h2
  exact ⟨P, m, Q, rfl, h1, h3, h4⟩
theorem ms_app {A C : Ps} {ms : List Rm} (h : ms.map Rm.r = (A ++ C).map mkR) : ∃ P Q, ms = P ++ Q ∧ P.map Rm.r = A.map mkR ∧ Q.map Rm.r = C.map mkR := by
  rw [List.map_append] at h
  obtain ⟨P, T, rfl, h1, h2⟩ := List.map_eq_append_iff.1 h
  exact ⟨P, T, rfl, h1, h2⟩
theorem ms_name {A : Ps} {P : List Rm} (h : P.map Rm.r = A.map mkR) : P.map Rm.n = A.map fun p => p.1.n := by
  have := congrArg (List.map Rs.n) h
  rw [List.map_map, List.map_map] at this
  exact this
theorem ms_each {A : Ps} {P : List Rm} (h : P.map Rm.r = A.map mkR) {F : ByteArray → Prop} (hA : ∀ a ∈ A, F a.1.n) : ∀ m ∈ P, F m.n := fun m hm => by
  have : m.n ∈ P.map Rm.n := List.mem_map_of_mem hm
  rw [ms_name h] at this
  obtain ⟨a, ha, e⟩ := List.mem_map.1 this
  rw [← e]
  exact hA a ha
theorem ms_ris {ps : Ps} {ms : List Rm} (h : ms.map Rm.r = ps.map mkR) (hr : RisV (ps.map Prod.fst)) : RisM ms := by
  have h1 : (ps.map fun p => p.1.n).Pairwise fun a b => bef a b = true := List.pairwise_map.2 (List.pairwise_map.1 hr)
  rw [← ms_name h] at h1
  exact List.pairwise_map.1 h1
theorem ms_size {ps : Ps} {ms : List Rm} {lt : List Lz} {u nx : Nat} (h : ms.map Rm.r = ps.map mkR) (ha : Ag ps lt u nx) : sizeM ms (lt.map lzm) = sizeV (ps.map Prod.fst) := by
  rw [ag_size ha, ← h, List.map_map]
  unfold sizeM
  rw [List.length_map]
  rfl
theorem ms_len {ps : Ps} {ms : List Rm} (h : ms.map Rm.r = ps.map mkR) : ms.length = ps.length := by
  have := congrArg List.length h
  rw [List.length_map, List.length_map] at this
  exact this
/-- All that a file has. -/
theorem ag_all {ps : Ps} {lt : List Lz} {u nx : Nat} (h : Ag ps lt u nx) {p : Fv × Nat} (hp : p ∈ ps) : (mkR p).s ++ byOf lt p.2 = p.1.d := by
  obtain ⟨_, h2, _⟩ := h.f p hp
  rw [h2]
  exact List.take_append_drop _ _
theorem qs_of : ∀ {fs : List Fl} {ps : Ps}, viewF fs = ps.map Prod.fst → ∃ qs : Qs, fsOf qs = fs ∧ psOf qs = ps
  | [], [], _ => ⟨[], rfl, rfl⟩
  | [], p :: ps, h => by cases h
  | f :: fs, [], h => by cases h
  | f :: fs, p :: ps, h => by
    have h' : f.v :: viewF fs = p.1 :: ps.map Prod.fst := h
    injection h' with h1 h2
    obtain ⟨qs, h3, h4⟩ := qs_of h2
    refine ⟨(f, p.2) :: qs, ?_, ?_⟩
    · show f :: fsOf qs = f :: fs
      rw [h3]
    · show (f.v, p.2) :: psOf qs = p :: ps
      rw [h4, h1]
theorem ps_fst (qs : Qs) : (psOf qs).map Prod.fst = viewF (fsOf qs) := by
  unfold psOf viewF fsOf
  rw [List.map_map, List.map_map]
  rfl
theorem partP (x : ByteArray) {ps : Ps} (h : RisV (ps.map Prod.fst)) : (∃ A f no C, ps = A ++ (f, no) :: C ∧ f.n = x) ∨ (∃ A C, ps = A ++ C ∧ (∀ a ∈ A, bef a.1.n x = true) ∧ ∀ c ∈ C, bef x c.1.n = true) := by
  rcases partV x h with ⟨A, f, C, e, hn⟩ | ⟨A, C, e, hA, hC⟩
  · obtain ⟨A', T, rfl, h1, h2⟩ := List.map_eq_append_iff.1 e
    obtain ⟨⟨f', no⟩, C', rfl, h3, h4⟩ := List.map_eq_cons_iff.1 h2
    exact .inl ⟨A', f', no, C', rfl, by rw [show f' = f from h3]; exact hn⟩
  · obtain ⟨A', C', rfl, h1, h2⟩ := List.map_eq_append_iff.1 e
    refine .inr ⟨A', C', rfl, fun a ha => hA _ (by rw [← h1]; exact List.mem_map_of_mem ha), fun c hc => hC _ (by rw [← h2]; exact List.mem_map_of_mem hc)⟩
end Go.Proofs.Ytofkfafdodhmdaa
