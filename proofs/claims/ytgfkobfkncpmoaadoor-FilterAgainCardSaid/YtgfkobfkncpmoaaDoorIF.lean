/- Lists of cells that came in, opened. Conditions: the reading's own reach. -/
import Derived.Test.YtgfkobfkncpmoaaDoorP7
import Derived.Test.YtgfkobfkncpmoaaDoorCW
namespace Go.Proofs.YtgfkobfkncpmoaaDoor
open Go.ChangeShapes Go.WideShapes Go.ChangeAt Go.RowKit Go.Joins

theorem inI_of_wf2 {n : Int} (h : (Lit.int .i64 n).wf = true) : inI n := by
  unfold inI
  simp [Lit.wf] at h
  have h1 : IntKind.i64.min = -9223372036854775808 := rfl
  have h2 : IntKind.i64.max = 9223372036854775807 := rfl
  omega

section
variable {H : Type} {enc : TypeId × Value → H} {W : World} {sp : Nat → Bool}
set_option maxRecDepth 100000 in
/-- Eight words that read as a cell are one. -/
theorem cell_words {b1 fuel : Nat} {cs : List Value} {x : DataW H × List MemPlace} (hl : cs.length = 8) (hf : DataW.trod enc Tryd.prog W b1 sp true fuel 28 cs = some x) : ∃ c : CT, cs = c.e ∧ inI c.vn := by
  match cs, hl with
  | [c0, c1, c2, c3, c4, c5, c6, c7], _ =>
    obtain ⟨xs, n, _, hx, _, hlen, hg⟩ := DataW.trod_struct Tryd.underlying28 hf
    match xs, hlen with
    | [y0, y1, y2, y3, y4, y5], _ =>
      have h0 := hg 0 _ rfl
      have h1 := hg 1 _ rfl
      have h2 := hg 2 _ rfl
      have h3 := hg 3 _ rfl
      have h4 := hg 4 _ rfl
      have h5 := hg 5 _ rfl
      simp [cellsS1, cellsI1, cellsV3] at h0 h1 h2 h3 h4 h5
      obtain ⟨r, e0, z0, w0⟩ := DataW.trod_string Tryd.underlying9 h0
      obtain ⟨f, e1, z1, w1⟩ := DataW.trod_string Tryd.underlying9 h1
      obtain ⟨q, e2, z2, w2⟩ := DataW.trod_string Tryd.underlying9 h2
      obtain ⟨t, e3, z3, w3⟩ := DataW.trod_int Tryd.underlying3 h3
      obtain ⟨k, e4, z4, w4⟩ := DataW.trod_int Tryd.underlying3 h4
      obtain ⟨ys, n', _, hx', _, hlen', hg'⟩ := DataW.trod_struct Tryd.underlying26 h5
      match ys, hlen' with
      | [u0, u1, u2], _ =>
        have g0 := hg' 0 _ rfl
        have g1 := hg' 1 _ rfl
        have g2 := hg' 2 _ rfl
        simp [cellsS1, cellsI1] at g0 g1 g2
        obtain ⟨vk, e5, z5, w5⟩ := DataW.trod_int Tryd.underlying3 g0
        obtain ⟨vn, e6, z6, w6⟩ := DataW.trod_int Tryd.underlying3 g1
        obtain ⟨s, e7, z7, w7⟩ := DataW.trod_string Tryd.underlying9 g2
        simp at e0 e1 e2 e3 e4 e5 e6 e7
        subst e0 e1 e2 e3 e4 e5 e6 e7
        exact ⟨⟨r, f, q, t, k, vk, vn, s⟩, rfl, inI_of_wf2 w6⟩
theorem addr_at (b off n : Nat) : (⟨b, off, none⟩ : Addr).add n = ⟨b, off + n, none⟩ := by
  by_cases h : n = 0
  · subst h; rfl
  · simp [Addr.add, h]
theorem bind_some {α β : Type} {o : Option α} {g : α → Option β} {y : β} (h : o.bind g = some y) : ∃ x, o = some x ∧ g x = some y := by
  cases o with
  | none => cases h
  | some x => exact ⟨x, rfl, h⟩
/-- A choice for each of the first n numbers is a list. -/
theorem list_of {P : Nat → CT → Prop} : ∀ n : Nat, (∀ i, i < n → ∃ c, P i c) → ∃ l : List CT, l.length = n ∧ ∀ i (h : i < l.length), P i l[i]
  | 0, _ => ⟨[], rfl, fun i h => absurd h (by simp)⟩
  | n + 1, h => by
    obtain ⟨l, h1, h2⟩ := list_of n (fun i hi => h i (by omega))
    obtain ⟨c, hc⟩ := h n (by omega)
    refine ⟨l ++ [c], by simp [h1], fun i hi => ?_⟩
    rcases Nat.lt_or_ge i l.length with h3 | h3
    · rw [List.getElem_append_left h3]; exact h2 i h3
    · have : i = n := by simp at hi; omega
      subst this
      rw [List.getElem_append_right h3]
      simp only [h1, Nat.sub_self, List.getElem_cons_zero]
      exact hc
set_option maxRecDepth 100000 in
/-- A list of cells that came in. -/
theorem open_cla {r : Reach} {b0 b1 : Nat} {v : Value} {d : DataW H} {p : List MemPlace} (hv : Value.okWide Tryd.prog W r b0 39 v) (h : DataW.Trod enc Tryd.prog W b1 (fun _ => true) true 39 v d p) : ∃ l, ClA W v l ∧ ∀ c ∈ l, inI c.vn := by
  obtain ⟨a0, len, cap, rfl⟩ := okWide_slice Tryd.underlying39 hv
  obtain ⟨fuel, hf⟩ := h
  rcases DataW.trod_slice Tryd.underlying39 hf with ⟨hcs, hx⟩ | ⟨a, len', cap', elems, rest, n, hfu, hcs, hx, hb, hl, hm, he, hi, _, _⟩
  · simp [Value.cells] at hcs
    obtain ⟨rfl, rfl, rfl⟩ := hcs
    exact ⟨[], cla_nil W, fun c h => by cases h⟩
  · simp [Value.cells] at hcs
    obtain ⟨rfl, rfl, rfl⟩ := hcs
    rw [cellsC] at hi
    have hP : ∀ i, i < len → ∃ c : CT, (∀ j, j < 8 → W.cell? (a.add (i * 8 + j)) = c.e[j]?) ∧ inI c.vn := fun i hi' => by
      have h1 := hi i hi'
      rw [List.getElem?_eq_getElem (by omega)] at h1
      obtain ⟨cs, hcs, htr⟩ := bind_some h1
      obtain ⟨_, hlen, hcell⟩ := World.cells?_some hcs
      obtain ⟨c, rfl, hvn⟩ := cell_words hlen htr
      refine ⟨c, fun j hj => ?_, hvn⟩
      have := hcell j hj
      rw [Addr.add_add] at this
      exact this
    obtain ⟨l, hlen, hall⟩ := list_of len hP
    have hmx : cap ≤ 9223372036854775807 := by unfold maxLen at hm; omega
    refine ⟨l, ⟨some a, cap, by rw [hlen], by omega, hmx, fun h0 => ?_⟩, fun c hc => ?_⟩
    · obtain ⟨b, off, spot⟩ := a
      have h00 := (hall 0 h0).1 0 (by omega)
      have hspot : spot = none := by
        have h0' : W.cell? ((⟨b, off, spot⟩ : Addr).add 0) = some (.string l[0].r) := h00
        simpa [Addr.add] using World.cell?_spot h0'
      subst hspot
      refine ⟨b, off, rfl, fun i hi' j hj => ?_⟩
      have := (hall i hi').1 j hj
      rw [← this]
      rw [addr_at, Nat.add_assoc]
    · obtain ⟨i, hi', rfl⟩ := List.getElem_of_mem hc
      exact (hall i hi').2
end
end Go.Proofs.YtgfkobfkncpmoaaDoor
