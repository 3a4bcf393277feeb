/- Several texts in one: CW CX. Conditions: as each theorem names them. -/
import Derived.Test.YtegdkcldgepngaaDoorFK
import Derived.Lib.SmallJoins
import Derived.Test.YtegdkcldgepngaaDoorVLa
import Derived.Test.YtegdkcldgepngaaDoorMA
import Derived.Test.YtegdkcldgepngaaDoorShelf
import Derived.Test.YtegdkcldgepngaaDoorCards
import Derived.Test.YtegdkcldgepngaaDoorTie
import Derived.WalkKit
import Derived.ProofKit
import Derived.OpenShut
import Derived.LaidLaws
import Derived.Deep.DeepHandedRow
import Derived.Lib.LaidTab
import Derived.Lib.LaidU8T
/- A cell of a law's, opened and shut. Conditions: none. -/
namespace Go.Proofs.YtegdkcldgepngaaDoor
open Go.ChangeShapes Go.WideShapes Go.ChangeAt Go.RowKit Go.Joins

theorem cellsC : Tryd.prog.cellsOf 25 = 8 := by kernel_rfl
theorem cellsV3 : Tryd.prog.cellsOf 23 = 3 := by kernel_rfl
theorem cellsS1 : Tryd.prog.cellsOf 9 = 1 := by kernel_rfl
theorem cellsI1 : Tryd.prog.cellsOf 3 = 1 := by kernel_rfl
theorem array8 {α : Type} {cs : Array α} (h : cs.size = 8) : ∃ c0 c1 c2 c3 c4 c5 c6 c7, cs = #[c0, c1, c2, c3, c4, c5, c6, c7] := by
  obtain ⟨l⟩ := cs
  match l, h with
  | [c0, c1, c2, c3, c4, c5, c6, c7], _ => exact ⟨c0, c1, c2, c3, c4, c5, c6, c7, rfl⟩
section
variable {H : Type} {enc : TypeId × Value → H} {W : World} {sp : Nat → Bool}
set_option maxRecDepth 100000 in
/-- A cell that came in, opened. -/
theorem open_cell {r : Reach} {b0 b1 : Nat} {v : Value} {d : DataW H} {p : List MemPlace} (hv : Value.okWide Tryd.prog W r b0 25 v) (h : DataW.Trod enc Tryd.prog W b1 sp true 25 v d p) :
    ∃ (r f q : ByteArray) (t k vk vn : Int) (s : ByteArray), v = .agg #[.string r, .string f, .string q, .int .i64 t, .int .i64 k, .int .i64 vk, .int .i64 vn, .string s] ∧
      d = .agg [.lit (.string r.data.toList), .lit (.string f.data.toList), .lit (.string q.data.toList), .lit (.int .i64 t), .lit (.int .i64 k), .agg [.lit (.int .i64 vk), .lit (.int .i64 vn), .lit (.string s.data.toList)]] ∧ p = [] ∧
      r.size ≤ maxLen ∧ f.size ≤ maxLen ∧ q.size ≤ maxLen ∧ (Lit.int .i64 t).wf = true ∧ (Lit.int .i64 k).wf = true ∧ (Lit.int .i64 vk).wf = true ∧ (Lit.int .i64 vn).wf = true ∧ s.size ≤ maxLen := by
  obtain ⟨cs, rfl, hsz⟩ := okWide_struct Tryd.underlying25 hv
  obtain ⟨c0, c1, c2, c3, c4, c5, c6, c7, rfl⟩ := array8 (hsz.trans cellsC)
  obtain ⟨fuel, hf⟩ := h
  obtain ⟨xs, n, _, hx, _, hlen, hg⟩ := DataW.trod_struct Tryd.underlying25 hf
  match xs, hlen with
  | [y0, y1, y2, y3, y4, y5], _ =>
    have h0 := hg 0 _ rfl
    have h1 := hg 1 _ rfl
    have h2 := hg 2 _ rfl
    have h3 := hg 3 _ rfl
    have h4 := hg 4 _ rfl
    have h5 := hg 5 _ rfl
    simp [Value.cells, cellsS1, cellsI1, cellsV3] at h0 h1 h2 h3 h4 h5
    obtain ⟨r, e0, z0, w0⟩ := DataW.trod_string Tryd.underlying9 h0
    obtain ⟨f, e1, z1, w1⟩ := DataW.trod_string Tryd.underlying9 h1
    obtain ⟨q, e2, z2, w2⟩ := DataW.trod_string Tryd.underlying9 h2
    obtain ⟨t, e3, z3, w3⟩ := DataW.trod_int Tryd.underlying3 h3
    obtain ⟨k, e4, z4, w4⟩ := DataW.trod_int Tryd.underlying3 h4
    obtain ⟨ys, n', _, hx', _, hlen', hg'⟩ := DataW.trod_struct Tryd.underlying23 h5
    match ys, hlen' with
    | [u0, u1, u2], _ =>
      have g0 := hg' 0 _ rfl
      have g1 := hg' 1 _ rfl
      have g2 := hg' 2 _ rfl
      simp [cellsS1, cellsI1] at g0 g1 g2
      obtain ⟨vk, e5, z5, w5⟩ := DataW.trod_int Tryd.underlying3 g0
      obtain ⟨vn, e6, z6, w6⟩ := DataW.trod_int Tryd.underlying3 g1
      obtain ⟨s, e7, z7, w7⟩ := DataW.trod_string Tryd.underlying9 g2
      simp at e0 e1 e2 e3 e4 e5 e6 e7
      subst e0 e1 e2 e3 e4 e5 e6 e7
      simp only [Prod.mk.injEq] at hx hx'
      exact ⟨r, f, q, t, k, vk, vn, s, rfl, by simp_all, by simp_all, w0, w1, w2, w3, w4, w5, w6, w7⟩
end
end Go.Proofs.YtegdkcldgepngaaDoor

/- A world in which the listed variables of layer 3's laws are laid, for the witness; what they give; a cell of the law's, shut. -/
namespace Go.Proofs.YtegdkcldgepngaaDoor
open Go.ChangeShapes Go.WideShapes Go.ChangeAt Go.RowKit Go.Joins

theorem seat_own : ownKnob Tryd.prog.godebug = none := by kernel_rfl
theorem laid_out : laidOutB Tryd.prog = true := by kernel_rfl
def seatLaid5 : List (String × DataW Unit) := [("unicode/utf8.acceptRanges", Rows.laid_unicode_utf8_acceptRanges), ("bytes.ErrTooLarge", Rows.laid_bytes_ErrTooLarge), ("unicode/utf8.first", Rows.laid_unicode_utf8_first)]
theorem seat_met5 {W : World} (h : laidMetH Tryd.prog seatLaid5 W) : laidMet Tryd.prog seatLaid5 W := h
theorem accept_is : (Rows.laid_unicode_utf8_acceptRanges : DataW Unit) = Lib.acceptData := by kernel_rfl
theorem first_is : (Rows.laid_unicode_utf8_first : DataW Unit) = Lib.firstData := by kernel_rfl
theorem u8extra : U8Extra Tryd.prog Tryd.lays196_ren where
  n3 := by kernel_rfl
  n4 := by kernel_rfl
  y3 := by kernel_rfl
  y4 := by kernel_rfl
  c5 := by kernel_rfl
  c119 := by kernel_rfl
  c138 := by kernel_rfl
theorem laid_u {W : World} (h : laidMet Tryd.prog seatLaid5 W) : LaidU W := ⟨by
    have h3 := Lib.laidMet.reads h (n := "unicode/utf8.first") (d := Rows.laid_unicode_utf8_first) (by simp [seatLaid5])
    have h4 := Lib.laidMet.reads h (n := "unicode/utf8.acceptRanges") (d := Rows.laid_unicode_utf8_acceptRanges) (by simp [seatLaid5])
    rw [first_is] at h3
    rw [accept_is] at h4
    exact utf8Tabs_of_readsT (U8Types.of196 Tryd.lays196) u8extra h3 h4⟩

/-- A world for the witness: the settled one, one block more for the error's text, the listed variables holding what their initialisers lay. -/
noncomputable def laidWorld5 (os : Os) : World :=
  let w0 := World.holding Tryd.prog os ⟨#[.cells #[.string ⟨#[98, 121, 116, 101, 115, 46, 66, 117, 102, 102, 101, 114, 58, 32, 116, 111, 111, 32, 108, 97, 114, 103, 101]⟩] 137], #[], []⟩
  { w0 with heap := ((w0.heap.modify 0 fun
      | .cells _ t frozen => .cells #[.iface 121 (.pointer (some ⟨(World.settled Tryd.prog os).heap.size, 0, none⟩))] t frozen
      | o => o).modify 2 fun
      | .cells _ t frozen => .cells ((List.range 16).flatMap fun i => [Value.int .u8 (Lib.accLo i), Value.int .u8 (Lib.accHi i)]).toArray t frozen
      | o => o).modify 1 fun
      | .cells _ t frozen => .cells (Lib.firstTab.map fun z => Value.int .u8 z).toArray t frozen
      | o => o }
set_option maxRecDepth 1000000 in
theorem laid_met5 (os : Os) (args : Array Value) : laidMet Tryd.prog seatLaid5 ((laidWorld5 os).forCall (fun _ _ => 0) ⟨#[], args, []⟩).memory :=
  laidMet_of_run' 8 (by kernel_rfl) (by kernel_rfl)
theorem inI_of_wf {n : Int} (h : (Lit.int .i64 n).wf = true) : inI n := by
  unfold inI
  simp [Lit.wf] at h
  have h1 : IntKind.i64.min = -9223372036854775808 := rfl
  have h2 : IntKind.i64.max = 9223372036854775807 := rfl
  omega
theorem size_of {n : Nat} (h : n ≤ maxLen) : n ≤ 9223372036854775807 := by unfold maxLen at h; omega

section
variable {H : Type} {enc : TypeId × Value → H} {W : World} {sp : Nat → Bool}
set_option maxRecDepth 100000 in
/-- A cell that came in, shut. -/
theorem shut_cell (r f q : ByteArray) (t k vk vn : Int) (s : ByteArray) (w0 : r.size ≤ maxLen) (w1 : f.size ≤ maxLen) (w2 : q.size ≤ maxLen) (w3 : (Lit.int .i64 t).wf = true) (w4 : (Lit.int .i64 k).wf = true) (w5 : (Lit.int .i64 vk).wf = true) (w6 : (Lit.int .i64 vn).wf = true) (w7 : s.size ≤ maxLen) (b1 : Nat) :
    DataW.Trod enc Tryd.prog W b1 sp true 25 (.agg #[.string r, .string f, .string q, .int .i64 t, .int .i64 k, .int .i64 vk, .int .i64 vn, .string s]) (.agg [.lit (.string r.data.toList), .lit (.string f.data.toList), .lit (.string q.data.toList), .lit (.int .i64 t), .lit (.int .i64 k), .agg [.lit (.int .i64 vk), .lit (.int .i64 vn), .lit (.string s.data.toList)]]) [] := by
  have hv : DataW.trod enc Tryd.prog W b1 sp true 2 23 [.int .i64 vk, .int .i64 vn, .string s] = some (.agg [.lit (.int .i64 vk), .lit (.int .i64 vn), .lit (.string s.data.toList)], []) := by
    have := trod_struct_mk (enc := enc) (w := W) (base := b1) (spare := sp) (held := true) (n := 1) (cs := [.int .i64 vk, .int .i64 vn, .string s]) (xs := [(.lit (.int .i64 vk), []), (.lit (.int .i64 vn), []), (.lit (.string s.data.toList), [])]) Tryd.underlying23 (by simp [cellsV3]) (by simp [DataW.trod, Tryd.underlying3, Tryd.underlying9, cellsS1, cellsI1, w5, w6, w7])
    simpa using this
  have := trod_struct_mk (enc := enc) (w := W) (base := b1) (spare := sp) (held := true) (n := 2) (cs := [.string r, .string f, .string q, .int .i64 t, .int .i64 k, .int .i64 vk, .int .i64 vn, .string s]) (xs := [(.lit (.string r.data.toList), []), (.lit (.string f.data.toList), []), (.lit (.string q.data.toList), []), (.lit (.int .i64 t), []), (.lit (.int .i64 k), []), (.agg [.lit (.int .i64 vk), .lit (.int .i64 vn), .lit (.string s.data.toList)], [])]) Tryd.underlying25 (by simp [cellsC]) (by
      simp [cellsS1, cellsI1, cellsV3, hv]
      simp [DataW.trod, Tryd.underlying3, Tryd.underlying9, w0, w1, w2, w3, w4])
  exact ⟨3, by simpa [Value.cells] using this⟩
end
end Go.Proofs.YtegdkcldgepngaaDoor
