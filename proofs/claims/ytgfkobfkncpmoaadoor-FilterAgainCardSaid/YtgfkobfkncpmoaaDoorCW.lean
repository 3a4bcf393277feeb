/- A cell of a law's, opened and shut. Conditions: none. -/
import Derived.Test.YtgfkobfkncpmoaaDoorP1
import Derived.Lib.SmallJoins
namespace Go.Proofs.YtgfkobfkncpmoaaDoor
open Go.ChangeShapes Go.WideShapes Go.ChangeAt Go.RowKit Go.Joins

theorem cellsC : Tryd.prog.cellsOf 28 = 8 := by kernel_rfl
theorem cellsV3 : Tryd.prog.cellsOf 26 = 3 := by kernel_rfl
theorem cellsS1 : Tryd.prog.cellsOf 9 = 1 := by kernel_rfl
theorem cellsI1 : Tryd.prog.cellsOf 3 = 1 := by kernel_rfl
theorem array8 {α : Type} {cs : Array α} (h : cs.size = 8) : ∃ c0 c1 c2 c3 c4 c5 c6 c7, cs = #[c0, c1, c2, c3, c4, c5, c6, c7] := by
  obtain ⟨l⟩ := cs
  match l, h with
  | [c0, c1, c2, c3, c4, c5, c6, c7], _ => exact ⟨c0, c1, c2, c3, c4, c5, c6, c7, rfl⟩
section
variable {H : Type} {enc : TypeId × Value → H} {W : World} {sp : Nat → Bool}
set_option maxRecDepth 100000 in
/-- A cell that came in, opened. -/
theorem open_cell {r : Reach} {b0 b1 : Nat} {v : Value} {d : DataW H} {p : List MemPlace} (hv : Value.okWide Tryd.prog W r b0 28 v) (h : DataW.Trod enc Tryd.prog W b1 sp true 28 v d p) :
    ∃ (r f q : ByteArray) (t k vk vn : Int) (s : ByteArray), v = .agg #[.string r, .string f, .string q, .int .i64 t, .int .i64 k, .int .i64 vk, .int .i64 vn, .string s] ∧
      d = .agg [.lit (.string r.data.toList), .lit (.string f.data.toList), .lit (.string q.data.toList), .lit (.int .i64 t), .lit (.int .i64 k), .agg [.lit (.int .i64 vk), .lit (.int .i64 vn), .lit (.string s.data.toList)]] ∧ p = [] ∧
      r.size ≤ maxLen ∧ f.size ≤ maxLen ∧ q.size ≤ maxLen ∧ (Lit.int .i64 t).wf = true ∧ (Lit.int .i64 k).wf = true ∧ (Lit.int .i64 vk).wf = true ∧ (Lit.int .i64 vn).wf = true ∧ s.size ≤ maxLen := by
  obtain ⟨cs, rfl, hsz⟩ := okWide_struct Tryd.underlying28 hv
  obtain ⟨c0, c1, c2, c3, c4, c5, c6, c7, rfl⟩ := array8 (hsz.trans cellsC)
  obtain ⟨fuel, hf⟩ := h
  obtain ⟨xs, n, _, hx, _, hlen, hg⟩ := DataW.trod_struct Tryd.underlying28 hf
  match xs, hlen with
  | [y0, y1, y2, y3, y4, y5], _ =>
    have h0 := hg 0 _ rfl
    have h1 := hg 1 _ rfl
    have h2 := hg 2 _ rfl
    have h3 := hg 3 _ rfl
    have h4 := hg 4 _ rfl
    have h5 := hg 5 _ rfl
    simp [Value.cells, cellsS1, cellsI1, cellsV3] at h0 h1 h2 h3 h4 h5
    obtain ⟨r, e0, z0, w0⟩ := DataW.trod_string Tryd.underlying9 h0
    obtain ⟨f, e1, z1, w1⟩ := DataW.trod_string Tryd.underlying9 h1
    obtain ⟨q, e2, z2, w2⟩ := DataW.trod_string Tryd.underlying9 h2
    obtain ⟨t, e3, z3, w3⟩ := DataW.trod_int Tryd.underlying3 h3
    obtain ⟨k, e4, z4, w4⟩ := DataW.trod_int Tryd.underlying3 h4
    obtain ⟨ys, n', _, hx', _, hlen', hg'⟩ := DataW.trod_struct Tryd.underlying26 h5
    match ys, hlen' with
    | [u0, u1, u2], _ =>
      have g0 := hg' 0 _ rfl
      have g1 := hg' 1 _ rfl
      have g2 := hg' 2 _ rfl
      simp [cellsS1, cellsI1] at g0 g1 g2
      obtain ⟨vk, e5, z5, w5⟩ := DataW.trod_int Tryd.underlying3 g0
      obtain ⟨vn, e6, z6, w6⟩ := DataW.trod_int Tryd.underlying3 g1
      obtain ⟨s, e7, z7, w7⟩ := DataW.trod_string Tryd.underlying9 g2
      simp at e0 e1 e2 e3 e4 e5 e6 e7
      subst e0 e1 e2 e3 e4 e5 e6 e7
      simp only [Prod.mk.injEq] at hx hx'
      exact ⟨r, f, q, t, k, vk, vn, s, rfl, by simp_all, by simp_all, w0, w1, w2, w3, w4, w5, w6, w7⟩
end
end Go.Proofs.YtgfkobfkncpmoaaDoor
