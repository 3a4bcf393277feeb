/- What the document keeps where it puts a cell among cells in order, step by step. Conditions: as each theorem names them. -/
import Derived.Test.YtjbjdkginemedaaGreatDoorQA
namespace Go.Proofs.YtjbjdkginemedaaGreatDoor
open Go.RowKit

theorem put_between {p q : List CT} {c : CT} (hp : ∀ x ∈ p, CT.cmp x c < 0) (hq : ∀ y ∈ q, 0 < CT.cmp y c) : putL (p ++ q) c = p ++ c :: q := by
  unfold putL
  rw [List.filter_append, List.filter_append, List.filter_eq_self.2 (fun x hx => decide_eq_true (hp x hx)), List.filter_eq_nil_iff.2 (fun x hx => by have := hq x hx; rw [decide_eq_true_iff]; omega), List.filter_eq_nil_iff.2 (fun x hx => by have := hp x hx; rw [decide_eq_true_iff]; omega), List.filter_eq_self.2 (fun x hx => decide_eq_true (hq x hx)), List.append_nil, List.nil_append]
theorem put_upon {p q : List CT} {x c : CT} (hp : ∀ x ∈ p, CT.cmp x c < 0) (hx : CT.cmp x c = 0) (hq : ∀ y ∈ q, 0 < CT.cmp y c) : putL (p ++ x :: q) c = p ++ c :: q := by
  rw [← put_between hp hq]
  unfold putL
  rw [List.filter_append, List.filter_append, List.filter_append, List.filter_append, List.filter_cons, List.filter_cons, if_neg (by rw [decide_eq_true_iff]; omega), if_neg (by rw [decide_eq_true_iff]; omega)]
/-- What the document's Put has kept of the first i cells: nx, with c among them or not. -/
def NextI (d : List CT) (c : CT) (i : Nat) (done : Bool) (nx : List CT) : Prop :=
  (done = false ∧ nx = d.take i ∧ ∀ x ∈ d.take i, CT.cmp x c < 0) ∨ (done = true ∧ (∀ x ∈ d.drop i, 0 < CT.cmp x c) ∧ nx ++ d.drop i = putL d c)
theorem nxt_start (d : List CT) (c : CT) : NextI d c 0 false [] := .inl ⟨rfl, rfl, fun x hx => by cases hx⟩
section
variable {d nx : List CT} {c x : CT} {i : Nat}
theorem takeC_next (hx : d[i]? = some x) : d.take (i + 1) = d.take i ++ [x] := by rw [List.take_add_one, hx]; rfl
theorem drop_here (hx : d[i]? = some x) : d.drop i = x :: d.drop (i + 1) := by
  obtain ⟨hi, rfl⟩ := List.getElem?_eq_some_iff.1 hx
  exact List.drop_eq_getElem_cons hi
theorem split_here (hx : d[i]? = some x) : d = d.take i ++ x :: d.drop (i + 1) := by
  rw [← drop_here hx, List.take_append_drop]
theorem rest_above (hr : d.Pairwise (fun x y => CT.cmp x y < 0)) (hx : d[i]? = some x) (h : 0 ≤ CT.cmp x c) : ∀ y ∈ d.drop (i + 1), 0 < CT.cmp y c := fun y hy => by
  rw [split_here hx] at hr
  obtain ⟨_, h2, _⟩ := List.pairwise_append.1 hr
  have h1 := (List.pairwise_cons.1 h2).1 y hy
  false_or_by_contra
  have := ct_c3.lt_le (x := x) (y := y) (z := c) h1 (by omega)
  omega
theorem nxt_low (h : NextI d c i false nx) (hx : d[i]? = some x) (hlt : CT.cmp x c < 0) : NextI d c (i + 1) false (nx ++ [x]) := by
  rcases h with ⟨_, rfl, h⟩ | ⟨q, _⟩
  · refine .inl ⟨rfl, (takeC_next hx).symm, fun y hy => ?_⟩
    rw [takeC_next hx] at hy
    rcases List.mem_append.1 hy with hy | hy
    · exact h y hy
    · rw [List.mem_singleton.1 hy]; exact hlt
  · cases q
theorem nxt_same (hr : d.Pairwise (fun x y => CT.cmp x y < 0)) (h : NextI d c i false nx) (hx : d[i]? = some x) (he : CT.cmp x c = 0) : NextI d c (i + 1) true (nx ++ [c]) := by
  rcases h with ⟨_, rfl, h⟩ | ⟨q, _⟩
  · have ha := rest_above hr hx (c := c) (by omega)
    refine .inr ⟨rfl, ha, ?_⟩
    conv => rhs; rw [split_here hx]
    rw [put_upon h he ha, List.append_assoc]
    rfl
  · cases q
theorem nxt_high (hr : d.Pairwise (fun x y => CT.cmp x y < 0)) (h : NextI d c i false nx) (hx : d[i]? = some x) (hg : 0 < CT.cmp x c) : NextI d c (i + 1) true (nx ++ [c] ++ [x]) := by
  rcases h with ⟨_, rfl, h⟩ | ⟨q, _⟩
  · have ha := rest_above hr hx (c := c) (by omega)
    refine .inr ⟨rfl, ha, ?_⟩
    have hb : ∀ y ∈ x :: d.drop (i + 1), 0 < CT.cmp y c := fun y hy => by
      rcases List.mem_cons.1 hy with rfl | hy
      · exact hg
      · exact ha y hy
    conv => rhs; rw [split_here hx]
    rw [put_between h hb, List.append_assoc, List.append_assoc]
    rfl
  · cases q
theorem nxt_done (h : NextI d c i true nx) (hx : d[i]? = some x) : 0 < CT.cmp x c ∧ NextI d c (i + 1) true (nx ++ [x]) := by
  rcases h with ⟨q, _⟩ | ⟨_, h1, h2⟩
  · cases q
  · rw [drop_here hx] at h1 h2
    refine ⟨h1 x List.mem_cons_self, .inr ⟨rfl, fun y hy => h1 y (List.mem_cons_of_mem _ hy), ?_⟩⟩
    rw [← h2, List.append_assoc]
    rfl
theorem nxt_end0 (h : NextI d c d.length false nx) : nx ++ [c] = putL d c := by
  rcases h with ⟨_, rfl, h⟩ | ⟨q, _⟩
  · rw [List.take_length] at h ⊢
    have := put_between (q := []) h (fun y hy => by cases hy)
    rw [List.append_nil] at this
    exact this.symm
  · cases q
theorem nxt_end1 (h : NextI d c d.length true nx) : nx = putL d c := by
  rcases h with ⟨q, _⟩ | ⟨_, _, h⟩
  · cases q
  · rw [List.drop_length, List.append_nil] at h
    exact h
theorem nxt_len {b : Bool} (h : NextI d c i b nx) (hi : i ≤ d.length) : nx.length ≤ d.length + 1 := by
  rcases h with ⟨_, rfl, _⟩ | ⟨_, _, h⟩
  · rw [List.length_take]; omega
  · have h1 := congrArg List.length h
    rw [List.length_append] at h1
    have h2 : (putL d c).length ≤ d.length + 1 := by
      unfold putL
      have := filter_two (p := fun x => decide (CT.cmp x c < 0)) (q := fun x => decide (0 < CT.cmp x c)) (l := d) fun x hx => by
        have := of_decide_eq_true hx
        exact decide_eq_false (by omega)
      rw [List.length_append, List.length_cons]
      omega
    omega
end
end Go.Proofs.YtjbjdkginemedaaGreatDoor
