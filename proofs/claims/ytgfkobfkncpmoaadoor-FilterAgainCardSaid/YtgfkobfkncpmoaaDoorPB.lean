/- Several texts in one: YIa YWa. Conditions: as each theorem names them. -/
import Derived.Test.YtgfkobfkncpmoaaDoorP6
import Derived.Test.YtgfkobfkncpmoaaDoorP7
/- Encode at every right cell; the cells with one put. Conditions: as each theorem names them. -/
namespace Go.Proofs.YtgfkobfkncpmoaaDoor
open Go.RowKit

/-- How many bytes a cell has. -/
def encL (c : CT) : Nat := (cEnc c.r.data.toList c.f.data.toList c.q.data.toList c.t c.k c.vk c.vn c.s.data.toList).length
def bytesL (l : List CT) : Nat := (l.map encL).sum
theorem enc_yes (c : CT) (h : okC c) (hok : c.ok = true) (w : World) (hL : LaidU w) :
    Calls Tryd.prog 77 #[c.v] w fun e w' => ∃ g cap, e = .returned (.tuple #[.slice (some ⟨g, 0, none⟩) (encL c) cap, .bool true]) ∧ Below w.heap.size w w' := by
  refine (encode_yes c.r c.f c.q c.s c.t c.k c.vk h.2.2 h.1 h.2.1 w hL hok).mono fun e w' ⟨v, he, hr, hb⟩ => ?_
  have hp : 0 < (cEnc c.r.data.toList c.f.data.toList c.q.data.toList c.t c.k c.vk c.vn c.s.data.toList).length := by
    unfold cEnc keyM
    simp only [List.length_append, List.length_cons]
    omega
  obtain ⟨g, cap, rfl, _⟩ := hr.form hp
  exact ⟨g, cap, he, hb⟩
theorem enc_no (c : CT) (h : okC c) (hok : c.ok = false) (w : World) (hL : LaidU w) :
    Calls Tryd.prog 77 #[c.v] w fun e w' => e = .returned (.tuple #[.slice none 0 0, .bool false]) ∧ Below w.heap.size w w' := encode_no c.r c.f c.q c.s c.t c.k c.vk h.2.2 h.1 h.2.1 w hL hok
theorem ok_small {c : CT} (h : c.ok = true) : c.r.size ≤ 16 ∧ c.f.size ≤ 8 ∧ c.q.size ≤ 12 := by
  obtain ⟨_, h2, _, h4, h5, _⟩ := cright_parts h
  exact ⟨h2, h4, h5⟩

/-- The cells with c in its place. -/
def putL (l : List CT) (c : CT) : List CT := l.filter (fun x => decide (CT.cmp x c < 0)) ++ c :: l.filter (fun x => decide (0 < CT.cmp x c))
theorem putL_rise {l : List CT} (c : CT) (h : l.Pairwise (fun x y => CT.cmp x y < 0)) : (putL l c).Pairwise (fun x y => CT.cmp x y < 0) := by
  refine List.pairwise_append.2 ⟨h.filter _, List.pairwise_cons.2 ⟨fun y hy => ?_, h.filter _⟩, fun x hx y hy => ?_⟩
  · have := of_decide_eq_true (List.mem_filter.1 hy).2
    have := ct_c3.anti c y
    omega
  · have h1 := of_decide_eq_true (List.mem_filter.1 hx).2
    rcases List.mem_cons.1 hy with rfl | hy
    · exact h1
    · have h2 := of_decide_eq_true (List.mem_filter.1 hy).2
      have := ct_c3.anti c y
      exact ct_c3.lt_le h1 (by omega)
theorem putL_mem {l : List CT} {c x : CT} (h : x ∈ putL l c) : x = c ∨ x ∈ l := by
  rcases List.mem_append.1 h with h | h
  · exact .inr (List.mem_filter.1 h).1
  · rcases List.mem_cons.1 h with h | h
    · exact .inl h
    · exact .inr (List.mem_filter.1 h).1
/-- Parted at c's place. -/
theorem part_at {l : List CT} (c : CT) (h : l.Pairwise (fun x y => CT.cmp x y < 0)) : l = l.filter (fun x => decide (CT.cmp x c < 0)) ++ l.filter (fun x => !decide (CT.cmp x c < 0)) := by
  induction l with
  | nil => rfl
  | cons a l ih =>
    obtain ⟨h1, h2⟩ := List.pairwise_cons.1 h
    by_cases q : CT.cmp a c < 0
    · rw [List.filter_cons, if_pos (decide_eq_true q), List.filter_cons, if_neg (by rw [decide_eq_true q]; decide), List.cons_append, ← ih h2]
    · have hn : ∀ x ∈ l, ¬ CT.cmp x c < 0 := fun x hx z => q (ct_c3.lt_le (h1 x hx) (Int.le_of_lt z))
      rw [List.filter_cons, if_neg (by rw [decide_eq_true_iff]; exact q), List.filter_eq_nil_iff.2 (fun x hx => by rw [decide_eq_true_iff]; exact hn x hx), List.filter_eq_self.2]
      · rfl
      · intro x hx
        rcases List.mem_cons.1 hx with rfl | hx
        · rw [decide_eq_false q]; rfl
        · rw [decide_eq_false (hn x hx)]; rfl

theorem filter_two {p q : CT → Bool} : ∀ {l : List CT}, (∀ x, p x = true → q x = false) → (l.filter p).length + (l.filter q).length ≤ l.length
  | [], _ => Nat.le_refl _
  | x :: l, h => by
    have ih := filter_two (l := l) h
    rw [List.filter_cons, List.filter_cons, List.length_cons]
    cases hp : p x with
    | true => rw [h x hp]; simp only [if_true, List.length_cons, Bool.false_eq_true, if_false]; omega
    | false => cases hq : q x <;> simp only [if_true, List.length_cons, Bool.false_eq_true, if_false] <;> omega
end Go.Proofs.YtgfkobfkncpmoaaDoor

/- What the document keeps where it puts a cell among cells in order, step by step. Conditions: as each theorem names them. -/
namespace Go.Proofs.YtgfkobfkncpmoaaDoor
open Go.RowKit

theorem put_between {p q : List CT} {c : CT} (hp : ∀ x ∈ p, CT.cmp x c < 0) (hq : ∀ y ∈ q, 0 < CT.cmp y c) : putL (p ++ q) c = p ++ c :: q := by
  unfold putL
  rw [List.filter_append, List.filter_append, List.filter_eq_self.2 (fun x hx => decide_eq_true (hp x hx)), List.filter_eq_nil_iff.2 (fun x hx => by have := hq x hx; rw [decide_eq_true_iff]; omega), List.filter_eq_nil_iff.2 (fun x hx => by have := hp x hx; rw [decide_eq_true_iff]; omega), List.filter_eq_self.2 (fun x hx => decide_eq_true (hq x hx)), List.append_nil, List.nil_append]
theorem put_upon {p q : List CT} {x c : CT} (hp : ∀ x ∈ p, CT.cmp x c < 0) (hx : CT.cmp x c = 0) (hq : ∀ y ∈ q, 0 < CT.cmp y c) : putL (p ++ x :: q) c = p ++ c :: q := by
  rw [← put_between hp hq]
  unfold putL
  rw [List.filter_append, List.filter_append, List.filter_append, List.filter_append, List.filter_cons, List.filter_cons, if_neg (by rw [decide_eq_true_iff]; omega), if_neg (by rw [decide_eq_true_iff]; omega)]
/-- What the document's Put has kept of the first i cells: nx, with c among them or not. -/
def NextI (d : List CT) (c : CT) (i : Nat) (done : Bool) (nx : List CT) : Prop :=
  (done = false ∧ nx = d.take i ∧ ∀ x ∈ d.take i, CT.cmp x c < 0) ∨ (done = true ∧ (∀ x ∈ d.drop i, 0 < CT.cmp x c) ∧ nx ++ d.drop i = putL d c)
theorem nxt_start (d : List CT) (c : CT) : NextI d c 0 false [] := .inl ⟨rfl, rfl, fun x hx => by cases hx⟩
section
variable {d nx : List CT} {c x : CT} {i : Nat}
theorem takeC_next (hx : d[i]? = some x) : d.take (i + 1) = d.take i ++ [x] := by rw [List.take_add_one, hx]; rfl
theorem drop_here (hx : d[i]? = some x) : d.drop i = x :: d.drop (i + 1) := by
  obtain ⟨hi, rfl⟩ := List.getElem?_eq_some_iff.1 hx
  exact List.drop_eq_getElem_cons hi
theorem split_here (hx : d[i]? = some x) : d = d.take i ++ x :: d.drop (i + 1) := by
  rw [← drop_here hx, List.take_append_drop]
theorem rest_above (hr : d.Pairwise (fun x y => CT.cmp x y < 0)) (hx : d[i]? = some x) (h : 0 ≤ CT.cmp x c) : ∀ y ∈ d.drop (i + 1), 0 < CT.cmp y c := fun y hy => by
  rw [split_here hx] at hr
  obtain ⟨_, h2, _⟩ := List.pairwise_append.1 hr
  have h1 := (List.pairwise_cons.1 h2).1 y hy
  false_or_by_contra
  have := ct_c3.lt_le (x := x) (y := y) (z := c) h1 (by omega)
  omega
theorem nxt_low (h : NextI d c i false nx) (hx : d[i]? = some x) (hlt : CT.cmp x c < 0) : NextI d c (i + 1) false (nx ++ [x]) := by
  rcases h with ⟨_, rfl, h⟩ | ⟨q, _⟩
  · refine .inl ⟨rfl, (takeC_next hx).symm, fun y hy => ?_⟩
    rw [takeC_next hx] at hy
    rcases List.mem_append.1 hy with hy | hy
    · exact h y hy
    · rw [List.mem_singleton.1 hy]; exact hlt
  · cases q
theorem nxt_same (hr : d.Pairwise (fun x y => CT.cmp x y < 0)) (h : NextI d c i false nx) (hx : d[i]? = some x) (he : CT.cmp x c = 0) : NextI d c (i + 1) true (nx ++ [c]) := by
  rcases h with ⟨_, rfl, h⟩ | ⟨q, _⟩
  · have ha := rest_above hr hx (c := c) (by omega)
    refine .inr ⟨rfl, ha, ?_⟩
    conv => rhs; rw [split_here hx]
    rw [put_upon h he ha, List.append_assoc]
    rfl
  · cases q
theorem nxt_high (hr : d.Pairwise (fun x y => CT.cmp x y < 0)) (h : NextI d c i false nx) (hx : d[i]? = some x) (hg : 0 < CT.cmp x c) : NextI d c (i + 1) true (nx ++ [c] ++ [x]) := by
  rcases h with ⟨_, rfl, h⟩ | ⟨q, _⟩
  · have ha := rest_above hr hx (c := c) (by omega)
    refine .inr ⟨rfl, ha, ?_⟩
    have hb : ∀ y ∈ x :: d.drop (i + 1), 0 < CT.cmp y c := fun y hy => by
      rcases List.mem_cons.1 hy with rfl | hy
      · exact hg
      · exact ha y hy
    conv => rhs; rw [split_here hx]
    rw [put_between h hb, List.append_assoc, List.append_assoc]
    rfl
  · cases q
theorem nxt_done (h : NextI d c i true nx) (hx : d[i]? = some x) : 0 < CT.cmp x c ∧ NextI d c (i + 1) true (nx ++ [x]) := by
  rcases h with ⟨q, _⟩ | ⟨_, h1, h2⟩
  · cases q
  · rw [drop_here hx] at h1 h2
    refine ⟨h1 x List.mem_cons_self, .inr ⟨rfl, fun y hy => h1 y (List.mem_cons_of_mem _ hy), ?_⟩⟩
    rw [← h2, List.append_assoc]
    rfl
theorem nxt_end0 (h : NextI d c d.length false nx) : nx ++ [c] = putL d c := by
  rcases h with ⟨_, rfl, h⟩ | ⟨q, _⟩
  · rw [List.take_length] at h ⊢
    have := put_between (q := []) h (fun y hy => by cases hy)
    rw [List.append_nil] at this
    exact this.symm
  · cases q
theorem nxt_end1 (h : NextI d c d.length true nx) : nx = putL d c := by
  rcases h with ⟨q, _⟩ | ⟨_, _, h⟩
  · cases q
  · rw [List.drop_length, List.append_nil] at h
    exact h
theorem nxt_len {b : Bool} (h : NextI d c i b nx) (hi : i ≤ d.length) : nx.length ≤ d.length + 1 := by
  rcases h with ⟨_, rfl, _⟩ | ⟨_, _, h⟩
  · rw [List.length_take]; omega
  · have h1 := congrArg List.length h
    rw [List.length_append] at h1
    have h2 : (putL d c).length ≤ d.length + 1 := by
      unfold putL
      have := filter_two (p := fun x => decide (CT.cmp x c < 0)) (q := fun x => decide (0 < CT.cmp x c)) (l := d) fun x hx => by
        have := of_decide_eq_true hx
        exact decide_eq_false (by omega)
      rw [List.length_append, List.length_cons]
      omega
    omega
end
end Go.Proofs.YtgfkobfkncpmoaaDoor
