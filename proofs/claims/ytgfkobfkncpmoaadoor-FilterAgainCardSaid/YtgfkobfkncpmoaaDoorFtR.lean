/- A filter that came in, opened. Conditions: the reading's own reach. -/
import Derived.Test.YtgfkobfkncpmoaaDoorFtC
import Derived.Lib.SmallJoins
import Derived.SliceStrings
import Derived.OpenShut
namespace Go.Proofs.YtgfkobfkncpmoaaDoor
open Go.ChangeShapes Go.WideShapes Go.ChangeAt Go.RowKit

theorem cellsFl : Tryd.prog.cellsOf 82 = 7 := by kernel_rfl
theorem cellsI13 : Tryd.prog.cellsOf 3 = 1 := by kernel_rfl
theorem cellsS13 : Tryd.prog.cellsOf 9 = 1 := by kernel_rfl
theorem cellsL13 : Tryd.prog.cellsOf 80 = 1 := by kernel_rfl
theorem array7 {α : Type} {cs : Array α} (h : cs.size = 7) : ∃ c0 c1 c2 c3 c4 c5 c6, cs = #[c0, c1, c2, c3, c4, c5, c6] := by
  obtain ⟨l⟩ := cs
  match l, h with
  | [c0, c1, c2, c3, c4, c5, c6], _ => exact ⟨c0, c1, c2, c3, c4, c5, c6, rfl⟩
section
variable {H : Type} {enc : TypeId × Value → H} {W : World}
set_option maxRecDepth 100000 in
/-- A slice of texts among the words. -/
theorem open_trow13 {b1 fuel : Nat} {v : Value} {x : DataW H × List MemPlace} (h : DataW.trod enc Tryd.prog W b1 (fun _ => true) true fuel 80 [v] = some x) : ∃ l, TxA W v l := by
  rcases open_strings Tryd.underlying80 Tryd.underlying9 cellsS13 h with ⟨hcs, hx⟩ | ⟨a, len, cap, ss, hcs, _, hl, hm, hz, hx, hcell, _⟩
  · simp at hcs
    subst hcs
    exact ⟨[], ⟨none, 0, rfl, Nat.le_refl _, by omega, fun h => absurd h (by simp)⟩⟩
  · simp at hcs
    subst hcs
    simp only [if_true] at hz
    have hul : (ss.take len).length = len := by rw [List.length_take]; omega
    refine ⟨ss.take len, ⟨some a, cap, by rw [hul], by rw [hul]; exact hl, by unfold maxLen at hm; omega, fun h0 => ?_⟩⟩
    rw [hul] at h0
    obtain ⟨b, off, sp⟩ := a
    have hs : sp = none := by simpa [Addr.add] using World.cell?_spot (hcell 0 (by omega))
    subst hs
    refine ⟨b, off, rfl, fun i x hx => ?_⟩
    have hi : i < len := by have := (List.getElem?_eq_some_iff.1 hx).1; omega
    rw [List.getElem?_take_of_lt hi] at hx
    have h9 := hcell i (by omega)
    rw [Go.WideShapes.add_plain, List.getD_eq_getElem?_getD, hx] at h9
    exact h9
set_option maxRecDepth 100000 in
/-- A filter that came in. -/
theorem open_flt {r : Reach} {b0 b1 : Nat} {v : Value} {d : DataW H} {p : List MemPlace} (hv : Value.okWide Tryd.prog W r b0 82 v) (h : DataW.Trod enc Tryd.prog W b1 (fun _ => true) true 82 v d p) :
    ∃ (f : FT) (u : Value), v = f.v u ∧ TxA W u f.fams := by
  obtain ⟨cs, rfl, hsz⟩ := okWide_struct Tryd.underlying82 hv
  obtain ⟨c0, c1, c2, c3, c4, c5, c6, rfl⟩ := array7 (hsz.trans cellsFl)
  obtain ⟨fuel, hf⟩ := h
  obtain ⟨xs, n, _, hx, _, hlen, hg⟩ := DataW.trod_struct Tryd.underlying82 hf
  match xs, hlen with
  | [y0, y1, y2, y3, y4, y5, y6], _ =>
    have h0 := hg 0 _ rfl
    have h1 := hg 1 _ rfl
    have h2 := hg 2 _ rfl
    have h3 := hg 3 _ rfl
    have h4 := hg 4 _ rfl
    have h5 := hg 5 _ rfl
    have h6 := hg 6 _ rfl
    simp [Value.cells, cellsI13, cellsS13, cellsL13] at h0 h1 h2 h3 h4 h5 h6
    obtain ⟨l, hl⟩ := open_trow13 h0
    obtain ⟨fr, e1, z1, w1⟩ := DataW.trod_string Tryd.underlying9 h1
    obtain ⟨tq, e2, z2, w2⟩ := DataW.trod_string Tryd.underlying9 h2
    obtain ⟨si, e3, z3, w3⟩ := DataW.trod_int Tryd.underlying3 h3
    obtain ⟨un, e4, z4, w4⟩ := DataW.trod_int Tryd.underlying3 h4
    obtain ⟨ve, e5, z5, w5⟩ := DataW.trod_int Tryd.underlying3 h5
    obtain ⟨ro, e6, z6, w6⟩ := DataW.trod_int Tryd.underlying3 h6
    simp at e1 e2 e3 e4 e5 e6
    subst e1 e2 e3 e4 e5 e6
    exact ⟨⟨l, fr, tq, si, un, ve, ro⟩, c0, rfl, hl⟩
end
end Go.Proofs.YtgfkobfkncpmoaaDoor
