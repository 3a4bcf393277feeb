/- A state that came in, opened. Conditions: the reading's own reach. -/
import Derived.Test.YtofkfafdodhmdaaGreatDoorSW
import Derived.Test.YtofkfafdodhmdaaGreatDoorNB
import Derived.Lib.SmallJoins
namespace Go.Proofs.YtofkfafdodhmdaaGreatDoor
open Go.ChangeShapes Go.WideShapes Go.ChangeAt Go.RowKit

theorem cellsSt : Tryz.prog.cellsOf 24 = 4 := by kernel_rfl
theorem cellsI1 : Tryz.prog.cellsOf 3 = 1 := by kernel_rfl
theorem cellsLI : Tryz.prog.cellsOf 22 = 1 := by kernel_rfl
theorem array4 {α : Type} {cs : Array α} (h : cs.size = 4) : ∃ c0 c1 c2 c3, cs = #[c0, c1, c2, c3] := by
  obtain ⟨l⟩ := cs
  match l, h with
  | [c0, c1, c2, c3], _ => exact ⟨c0, c1, c2, c3, rfl⟩
theorem int_wf {n : Int} (h : (Lit.int .i64 n).wf = true) : -9223372036854775808 ≤ n ∧ n < 9223372036854775808 := by
  simp [Lit.wf] at h
  have h1 : IntKind.i64.min = -9223372036854775808 := rfl
  have h2 : IntKind.i64.max = 9223372036854775807 := rfl
  omega
section
variable {H : Type} {enc : TypeId × Value → H} {W : World}
set_option maxRecDepth 100000 in
/-- A slice of ints among the words. -/
theorem open_irow {b1 fuel : Nat} {v : Value} {x : DataW H × List MemPlace} (h : DataW.trod enc Tryz.prog W b1 (fun _ => true) true fuel 22 [v] = some x) : ∃ zs, SlI W v zs ∧ ∀ z ∈ zs, -9223372036854775808 ≤ z ∧ z < 9223372036854775808 := by
  rcases open_ints Tryz.underlying22 Tryz.underlying3 cellsI1 h with ⟨hcs, hx⟩ | ⟨a, len, cap, zs, hcs, _, hl, hm, hz, hx, hcell, hwz⟩
  · simp at hcs
    subst hcs
    exact ⟨[], slI_nil W, fun z h => by cases h⟩
  · simp at hcs
    subst hcs
    simp only [if_true] at hz
    have hul : (zs.take len).length = len := by rw [List.length_take]; omega
    refine ⟨zs.take len, ⟨some a, cap, by rw [hul], by rw [hul]; exact hl, by unfold maxLen at hm; omega, fun h0 => ?_, fun h => by cases h⟩, fun z hz2 => int_wf (hwz z (List.mem_of_mem_take hz2))⟩
    rw [hul] at h0
    obtain ⟨b, off, rfl, hc⟩ := ints_at hcell (by omega)
    refine ⟨b, off, rfl, fun i hi => ?_⟩
    rw [hul] at hi
    rw [hc i (by omega)]
    simp only [List.getD_eq_getElem?_getD, List.getElem?_take_of_lt hi]
set_option maxRecDepth 100000 in
/-- Four words that read as a state are one. -/
theorem sta_words {b1 fuel : Nat} {cs : List Value} {x : DataW H × List MemPlace} (hl : cs.length = 4) (hf : DataW.trod enc Tryz.prog W b1 (fun _ => true) true fuel 24 cs = some x) :
    ∃ (s : Sta) (v : Value), cs = [.int .i64 s.g, .int .i64 s.a, .int .i64 s.n, v] ∧ SlI W v s.t := by
  match cs, hl with
  | [c0, c1, c2, c3], _ =>
    obtain ⟨xs, n, _, hx, _, hlen, hg⟩ := DataW.trod_struct Tryz.underlying24 hf
    match xs, hlen with
    | [y0, y1, y2, y3], _ =>
      have h0 := hg 0 _ rfl
      have h1 := hg 1 _ rfl
      have h2 := hg 2 _ rfl
      have h3 := hg 3 _ rfl
      simp [cellsI1, cellsLI] at h0 h1 h2 h3
      obtain ⟨g, e0, z0, w0⟩ := DataW.trod_int Tryz.underlying3 h0
      obtain ⟨a, e1, z1, w1⟩ := DataW.trod_int Tryz.underlying3 h1
      obtain ⟨n, e2, z2, w2⟩ := DataW.trod_int Tryz.underlying3 h2
      obtain ⟨t, ht, _⟩ := open_irow h3
      simp at e0 e1 e2
      subst e0 e1 e2
      exact ⟨⟨g, a, n, t⟩, c3, rfl, ht⟩
set_option maxRecDepth 100000 in
/-- A state that came in. -/
theorem open_sta {r : Reach} {b0 b1 : Nat} {v : Value} {d : DataW H} {p : List MemPlace} (hv : Value.okWide Tryz.prog W r b0 24 v) (h : DataW.Trod enc Tryz.prog W b1 (fun _ => true) true 24 v d p) :
    ∃ (s : Sta) (u : Value), v = staV s.g s.a s.n u ∧ SlI W u s.t := by
  obtain ⟨cs, rfl, hsz⟩ := okWide_struct Tryz.underlying24 hv
  obtain ⟨c0, c1, c2, c3, rfl⟩ := array4 (hsz.trans cellsSt)
  obtain ⟨fuel, hf⟩ := h
  obtain ⟨s, u, e, h1⟩ := sta_words (by simp [Value.cells]) hf
  refine ⟨s, u, ?_, h1⟩
  simp [Value.cells] at e
  obtain ⟨e0, e1, e2, e3⟩ := e
  rw [e0, e1, e2, e3]
end
end Go.Proofs.YtofkfafdodhmdaaGreatDoor
