/- Lists of runs in memory; an argument [][]api.Cell opened. Conditions: the reading's own reach. -/
import Derived.Test.YtgfkobfkncpmoaaDoorIF
namespace Go.Proofs.YtgfkobfkncpmoaaDoor
open Go.ChangeShapes Go.WideShapes Go.ChangeAt Go.RowKit Go.Joins

/-- The slice v holds rows of cells. -/
def RsA (w : World) (v : Value) (rs : List (List CT)) : Prop := ∃ A c, v = .slice A rs.length c ∧ rs.length ≤ c ∧ c ≤ 9223372036854775807 ∧ (0 < rs.length → ∃ b off, A = some ⟨b, off, none⟩ ∧ ∀ (i : Nat) (l : List CT), rs[i]? = some l → ∃ u, w.cell? ⟨b, off + i, none⟩ = some u ∧ ClA w u l)
theorem RsA.below {w w' : World} {v : Value} {rs : List (List CT)} (h : RsA w v rs) (hb : Below w.heap.size w w') : RsA w' v rs := by
  obtain ⟨A, c, h1, h2, h3, h4⟩ := h
  refine ⟨A, c, h1, h2, h3, fun h0 => ?_⟩
  obtain ⟨b, off, e, hh⟩ := h4 h0
  refine ⟨b, off, e, fun i l hl => ?_⟩
  obtain ⟨u, hu, hc⟩ := hh i l hl
  exact ⟨u, (hb.cell (p := ⟨b, off + i, none⟩) (cell_lt hu)).trans hu, hc.below hb⟩
theorem rsa_nil (w : World) : RsA w (.slice none 0 0) [] := ⟨none, 0, rfl, by simp, by omega, fun h => absurd h (by simp)⟩
theorem cellsLC : Tryd.prog.cellsOf 39 = 1 := by kernel_rfl
theorem list_of2 {α : Type} {P : Nat → α → Prop} : ∀ n : Nat, (∀ i, i < n → ∃ c, P i c) → ∃ l : List α, l.length = n ∧ ∀ i (h : i < l.length), P i l[i]
  | 0, _ => ⟨[], rfl, fun i h => absurd h (by simp)⟩
  | n + 1, h => by
    obtain ⟨l, h1, h2⟩ := list_of2 n (fun i hi => h i (by omega))
    obtain ⟨c, hc⟩ := h n (by omega)
    refine ⟨l ++ [c], by simp [h1], fun i hi => ?_⟩
    rcases Nat.lt_or_ge i l.length with h3 | h3
    · rw [List.getElem_append_left h3]; exact h2 i h3
    · have : i = n := by simp at hi; omega
      subst this
      rw [List.getElem_append_right h3]
      simp only [h1, Nat.sub_self, List.getElem_cons_zero]
      exact hc
section
variable {H : Type} {enc : TypeId × Value → H} {W : World} {sp : Nat → Bool}
set_option maxRecDepth 100000 in
/-- One word that reads as a list of cells is one. -/
theorem cla_trod {b1 fuel : Nat} {cs : List Value} {x : DataW H × List MemPlace} (hf : DataW.trod enc Tryd.prog W b1 sp true fuel 39 cs = some x) : ∃ u l, cs = [u] ∧ ClA W u l ∧ ∀ c ∈ l, inI c.vn := by
  rcases DataW.trod_slice Tryd.underlying39 hf with ⟨hcs, hx⟩ | ⟨a, len, cap, elems, rest, n, hfu, hcs, hx, hb, hl, hm, he, hi, _, _⟩
  · subst hcs
    exact ⟨_, [], rfl, cla_nil W, fun c h => by cases h⟩
  · subst hcs
    rw [cellsC] at hi
    have hP : ∀ i, i < len → ∃ c : CT, (∀ j, j < 8 → W.cell? (a.add (i * 8 + j)) = c.e[j]?) ∧ inI c.vn := fun i hi' => by
      have h1 := hi i hi'
      rw [List.getElem?_eq_getElem (by omega)] at h1
      obtain ⟨cs, hcs, htr⟩ := bind_some h1
      obtain ⟨_, hlen, hcell⟩ := World.cells?_some hcs
      obtain ⟨c, rfl, hvn⟩ := cell_words hlen htr
      refine ⟨c, fun j hj => ?_, hvn⟩
      have := hcell j hj
      rw [Addr.add_add] at this
      exact this
    obtain ⟨l, hlen, hall⟩ := list_of len hP
    have hmx : cap ≤ 9223372036854775807 := by unfold maxLen at hm; omega
    refine ⟨_, l, rfl, ⟨some a, cap, by rw [hlen], by omega, hmx, fun h0 => ?_⟩, fun c hc => ?_⟩
    · obtain ⟨b, off, spot⟩ := a
      have h00 := (hall 0 h0).1 0 (by omega)
      have hspot : spot = none := by
        have h0' : W.cell? ((⟨b, off, spot⟩ : Addr).add 0) = some (.string l[0].r) := h00
        simpa [Addr.add] using World.cell?_spot h0'
      subst hspot
      refine ⟨b, off, rfl, fun i hi' j hj => ?_⟩
      have := (hall i hi').1 j hj
      rw [← this]
      rw [addr_at, Nat.add_assoc]
    · obtain ⟨i, hi', rfl⟩ := List.getElem_of_mem hc
      exact (hall i hi').2
set_option maxRecDepth 100000 in
/-- A list of lists of cells that came in. -/
theorem open_rsa {r : Reach} {b0 b1 : Nat} {v : Value} {d : DataW H} {p : List MemPlace} (hv : Value.okWide Tryd.prog W r b0 61 v) (h : DataW.Trod enc Tryd.prog W b1 (fun _ => true) true 61 v d p) : ∃ rs, RsA W v rs ∧ ∀ l ∈ rs, ∀ c ∈ l, inI c.vn := by
  obtain ⟨a0, len, cap, rfl⟩ := okWide_slice Tryd.underlying61 hv
  obtain ⟨fuel, hf⟩ := h
  rcases DataW.trod_slice Tryd.underlying61 hf with ⟨hcs, hx⟩ | ⟨a, len', cap', elems, rest, n, hfu, hcs, hx, hb, hl, hm, he, hi, _, _⟩
  · simp [Value.cells] at hcs
    obtain ⟨rfl, rfl, rfl⟩ := hcs
    exact ⟨[], rsa_nil W, fun c h => by cases h⟩
  · simp [Value.cells] at hcs
    obtain ⟨rfl, rfl, rfl⟩ := hcs
    rw [cellsLC] at hi
    have hP : ∀ i, i < len → ∃ ul : Value × List CT, W.cell? (a.add i) = some ul.1 ∧ ClA W ul.1 ul.2 ∧ ∀ c ∈ ul.2, inI c.vn := fun i hi' => by
      have h1 := hi i hi'
      rw [List.getElem?_eq_getElem (by omega)] at h1
      obtain ⟨cs, hcs, htr⟩ := bind_some h1
      obtain ⟨_, hlen, hcell⟩ := World.cells?_some hcs
      obtain ⟨u, l, rfl, hu, hn⟩ := cla_trod htr
      refine ⟨(u, l), ?_, hu, hn⟩
      have := hcell 0 (by omega)
      rw [Addr.add_add, Nat.mul_one, Nat.add_zero] at this
      exact this
    obtain ⟨l, hlen, hall⟩ := list_of2 len hP
    have hmx : cap ≤ 9223372036854775807 := by unfold maxLen at hm; omega
    refine ⟨l.map Prod.snd, ⟨some a, cap, by rw [List.length_map, hlen], by rw [List.length_map]; omega, hmx, fun h0 => ?_⟩, fun x hx => ?_⟩
    · rw [List.length_map] at h0
      obtain ⟨b, off, spot⟩ := a
      have h00 := (hall 0 h0).1
      have hspot : spot = none := by
        have h0' : W.cell? ((⟨b, off, spot⟩ : Addr).add 0) = some l[0].1 := h00
        simpa [Addr.add] using World.cell?_spot h0'
      subst hspot
      refine ⟨b, off, rfl, fun i y hy => ?_⟩
      rw [List.getElem?_map] at hy
      have hi' : i < l.length := by
        rcases Nat.lt_or_ge i l.length with q | q
        · exact q
        · rw [List.getElem?_eq_none q] at hy; cases hy
      rw [List.getElem?_eq_getElem hi'] at hy
      cases hy
      obtain ⟨g1, g2, _⟩ := hall i hi'
      refine ⟨_, ?_, g2⟩
      rw [← addr_at]
      exact g1
    · obtain ⟨ul, hul, rfl⟩ := List.mem_map.1 hx
      obtain ⟨i, hi', rfl⟩ := List.getElem_of_mem hul
      exact (hall i hi').2.2
end
end Go.Proofs.YtgfkobfkncpmoaaDoor
