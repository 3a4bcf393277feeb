/- States, rows of bytes and ints that came in, opened. Conditions: the reading's own reach. -/
import Derived.Test.YtofkfafdodhmdaaGreatDoorMfUa
import Derived.Test.YtofkfafdodhmdaaGreatDoorMfXa
namespace Go.Proofs.YtofkfafdodhmdaaGreatDoor
open Go.ChangeShapes Go.WideShapes Go.ChangeAt Go.RowKit

theorem bind_some9 {α β : Type} {o : Option α} {g : α → Option β} {y : β} (h : o.bind g = some y) : ∃ x, o = some x ∧ g x = some y := by
  cases o with
  | none => cases h
  | some x => exact ⟨x, rfl, h⟩
theorem list_of9 {α : Type} {P : Nat → α → Prop} : ∀ n : Nat, (∀ i, i < n → ∃ c, P i c) → ∃ l : List α, l.length = n ∧ ∀ i (h : i < l.length), P i l[i]
  | 0, _ => ⟨[], rfl, fun i h => absurd h (by simp)⟩
  | n + 1, h => by
    obtain ⟨l, h1, h2⟩ := list_of9 n (fun i hi => h i (by omega))
    obtain ⟨c, hc⟩ := h n (by omega)
    refine ⟨l ++ [c], by simp [h1], fun i hi => ?_⟩
    rcases Nat.lt_or_ge i l.length with h3 | h3
    · rw [List.getElem_append_left h3]; exact h2 i h3
    · have : i = n := by simp at hi; omega
      subst this
      rw [List.getElem_append_right h3]
      simp only [h1, Nat.sub_self, List.getElem_cons_zero]
      exact hc
theorem addr_at9 (b off n : Nat) : (⟨b, off, none⟩ : Addr).add n = ⟨b, off + n, none⟩ := by
  by_cases h : n = 0
  · subst h; rfl
  · simp [Addr.add, h]
section
variable {H : Type} {enc : TypeId × Value → H} {W : World}
set_option maxRecDepth 100000 in
/-- The states that came in. -/
theorem open_stas {r : Reach} {b0 b1 : Nat} {v : Value} {d : DataW H} {p : List MemPlace} (hv : Value.okWide Tryz.prog W r b0 46 v) (h : DataW.Trod enc Tryz.prog W b1 (fun _ => true) true 46 v d p) :
    ∃ ss : List Sta, StArg W v ss := by
  obtain ⟨a0, len, cap, rfl⟩ := okWide_slice Tryz.underlying46 hv
  obtain ⟨fuel, hf⟩ := h
  rcases DataW.trod_slice Tryz.underlying46 hf with ⟨hcs, hx⟩ | ⟨a, len', cap', elems, rest, n, hfu, hcs, hx, hb, hl, hm, he, hi, _, _⟩
  · simp [Value.cells] at hcs
    obtain ⟨rfl, rfl, rfl⟩ := hcs
    exact ⟨[], none, 0, rfl, by simp, fun i h => absurd h (by simp)⟩
  · simp [Value.cells] at hcs
    obtain ⟨rfl, rfl, rfl⟩ := hcs
    rw [cellsSt] at hi
    have hP : ∀ i, i < len → ∃ s : Sta, ∃ u, (∀ j, j < 4 → W.cell? (a.add (i * 4 + j)) = ([.int .i64 s.g, .int .i64 s.a, .int .i64 s.n, u] : List Value)[j]?) ∧ SlI W u s.t := fun i hi' => by
      have h1 := hi i hi'
      have hie : i < elems.length := by omega
      rw [List.getElem?_eq_getElem hie] at h1
      obtain ⟨cs, hcs, htr⟩ := bind_some9 h1
      obtain ⟨_, hlen, hcell⟩ := World.cells?_some hcs
      obtain ⟨s, u, rfl, hu⟩ := sta_words hlen htr
      refine ⟨s, u, fun j hj => ?_, hu⟩
      have := hcell j hj
      rw [Addr.add_add] at this
      exact this
    obtain ⟨l, hlen, hall⟩ := list_of9 len hP
    have hmx : cap ≤ 9223372036854775807 := by unfold maxLen at hm; omega
    refine ⟨l, some a, cap, by rw [hlen], by omega, fun i h0 => ?_⟩
    obtain ⟨b, off, spot⟩ := a
    have hz0 : 0 < l.length := by omega
    have hspot : spot = none := by
      obtain ⟨u0, h00, _⟩ := hall 0 hz0
      have h0' : W.cell? ((⟨b, off, spot⟩ : Addr).add 0) = some (.int .i64 l[0].g) := h00 0 (by omega)
      simpa [Addr.add] using World.cell?_spot h0'
    subst hspot
    obtain ⟨u, h1, h2⟩ := hall i h0
    have hj : ∀ j, j < 4 → W.cell? ⟨b, off + i * 4 + j, none⟩ = ([.int .i64 l[i].g, .int .i64 l[i].a, .int .i64 l[i].n, u] : List Value)[j]? := fun j hj => by
      have := h1 j hj
      rw [addr_at9, ← Nat.add_assoc] at this
      exact this
    exact ⟨b, off, u, rfl, ⟨hj 0 (by omega), hj 1 (by omega), hj 2 (by omega), hj 3 (by omega), h2⟩⟩
set_option maxRecDepth 100000 in
/-- Ints that came in. -/
theorem open_ilist {r : Reach} {b0 b1 : Nat} {v : Value} {d : DataW H} {p : List MemPlace} (hv : Value.okWide Tryz.prog W r b0 22 v) (h : DataW.Trod enc Tryz.prog W b1 (fun _ => true) true 22 v d p) :
    ∃ zs, SlI W v zs ∧ ∀ z ∈ zs, -9223372036854775808 ≤ z ∧ z < 9223372036854775808 := by
  obtain ⟨a0, len, cap, rfl⟩ := okWide_slice Tryz.underlying22 hv
  obtain ⟨fuel, hf⟩ := h
  exact open_irow hf
end
end Go.Proofs.YtofkfafdodhmdaaGreatDoor
