/- Several texts in one: CX CYa. Conditions: as each theorem names them. -/
import Derived.Test.YtfcnobcpnhfgmaaGreatDoorCW
import Derived.Test.YtfcnobcpnhfgmaaGreatDoorQ1
import Derived.Test.YtfcnobcpnhfgmaaGreatDoorShelf
import Derived.Test.YtfcnobcpnhfgmaaGreatDoorCards
import Derived.Test.YtfcnobcpnhfgmaaGreatDoorTie
import Derived.WalkKit
import Derived.ProofKit
import Derived.OpenShut
import Derived.LaidLaws
import Derived.Deep.DeepHandedRow
import Derived.Lib.LaidTab
import Derived.Lib.LaidU8T
import Derived.Test.YtfcnobcpnhfgmaaGreatDoorSO
import Derived.Deep.Matrix
import Derived.SizedLaws
/- A world in which the listed variables of layer 3's laws are laid, for the witness; what they give; a cell of the law's, shut. -/
namespace Go.Proofs.YtfcnobcpnhfgmaaGreatDoor
open Go.ChangeShapes Go.WideShapes Go.ChangeAt Go.RowKit Go.Joins

theorem seat_own : ownKnob Tryz.prog.godebug = none := by kernel_rfl
theorem laid_out : laidOutB Tryz.prog = true := by kernel_rfl
def seatLaid5 : List (String × DataW Unit) := [("unicode/utf8.acceptRanges", Rows.laid_unicode_utf8_acceptRanges), ("bytes.ErrTooLarge", Rows.laid_bytes_ErrTooLarge), ("unicode/utf8.first", Rows.laid_unicode_utf8_first)]
theorem seat_met5 {W : World} (h : laidMetH Tryz.prog seatLaid5 W) : laidMet Tryz.prog seatLaid5 W := h
theorem accept_is : (Rows.laid_unicode_utf8_acceptRanges : DataW Unit) = Lib.acceptData := by kernel_rfl
theorem first_is : (Rows.laid_unicode_utf8_first : DataW Unit) = Lib.firstData := by kernel_rfl
theorem u8extra : U8Extra Tryz.prog Tryz.lays196_ren where
  n3 := by kernel_rfl
  n4 := by kernel_rfl
  y3 := by kernel_rfl
  y4 := by kernel_rfl
  c5 := by kernel_rfl
  c119 := by kernel_rfl
  c138 := by kernel_rfl
theorem laid_u {W : World} (h : laidMet Tryz.prog seatLaid5 W) : LaidU W := ⟨by
    have h3 := Lib.laidMet.reads h (n := "unicode/utf8.first") (d := Rows.laid_unicode_utf8_first) (by simp [seatLaid5])
    have h4 := Lib.laidMet.reads h (n := "unicode/utf8.acceptRanges") (d := Rows.laid_unicode_utf8_acceptRanges) (by simp [seatLaid5])
    rw [first_is] at h3
    rw [accept_is] at h4
    exact utf8Tabs_of_readsT (U8Types.of196 Tryz.lays196) u8extra h3 h4⟩

/-- A world for the witness: the settled one, one block more for the error's text, the listed variables holding what their initialisers lay. -/
noncomputable def laidWorld5 (os : Os) : World :=
  let w0 := World.holding Tryz.prog os ⟨#[.cells #[.string ⟨#[98, 121, 116, 101, 115, 46, 66, 117, 102, 102, 101, 114, 58, 32, 116, 111, 111, 32, 108, 97, 114, 103, 101]⟩] 202], #[], []⟩
  { w0 with heap := ((w0.heap.modify 3 fun
      | .cells _ t frozen => .cells #[.iface 186 (.pointer (some ⟨(World.settled Tryz.prog os).heap.size, 0, none⟩))] t frozen
      | o => o).modify 2 fun
      | .cells _ t frozen => .cells ((List.range 16).flatMap fun i => [Value.int .u8 (Lib.accLo i), Value.int .u8 (Lib.accHi i)]).toArray t frozen
      | o => o).modify 1 fun
      | .cells _ t frozen => .cells (Lib.firstTab.map fun z => Value.int .u8 z).toArray t frozen
      | o => o }
set_option maxRecDepth 1000000 in
theorem laid_met5 (os : Os) (args : Array Value) : laidMet Tryz.prog seatLaid5 ((laidWorld5 os).forCall (fun _ _ => 0) ⟨#[], args, []⟩).memory :=
  laidMet_of_run' 8 (by kernel_rfl) (by kernel_rfl)
theorem inI_of_wf {n : Int} (h : (Lit.int .i64 n).wf = true) : inI n := by
  unfold inI
  simp [Lit.wf] at h
  have h1 : IntKind.i64.min = -9223372036854775808 := rfl
  have h2 : IntKind.i64.max = 9223372036854775807 := rfl
  omega
theorem size_of {n : Nat} (h : n ≤ maxLen) : n ≤ 9223372036854775807 := by unfold maxLen at h; omega

section
variable {H : Type} {enc : TypeId × Value → H} {W : World} {sp : Nat → Bool}
set_option maxRecDepth 100000 in
/-- A cell that came in, shut. -/
theorem shut_cell (r f q : ByteArray) (t k vk vn : Int) (s : ByteArray) (w0 : r.size ≤ maxLen) (w1 : f.size ≤ maxLen) (w2 : q.size ≤ maxLen) (w3 : (Lit.int .i64 t).wf = true) (w4 : (Lit.int .i64 k).wf = true) (w5 : (Lit.int .i64 vk).wf = true) (w6 : (Lit.int .i64 vn).wf = true) (w7 : s.size ≤ maxLen) (b1 : Nat) :
    DataW.Trod enc Tryz.prog W b1 sp true 26 (.agg #[.string r, .string f, .string q, .int .i64 t, .int .i64 k, .int .i64 vk, .int .i64 vn, .string s]) (.agg [.lit (.string r.data.toList), .lit (.string f.data.toList), .lit (.string q.data.toList), .lit (.int .i64 t), .lit (.int .i64 k), .agg [.lit (.int .i64 vk), .lit (.int .i64 vn), .lit (.string s.data.toList)]]) [] := by
  have hv : DataW.trod enc Tryz.prog W b1 sp true 2 24 [.int .i64 vk, .int .i64 vn, .string s] = some (.agg [.lit (.int .i64 vk), .lit (.int .i64 vn), .lit (.string s.data.toList)], []) := by
    have := trod_struct_mk (enc := enc) (w := W) (base := b1) (spare := sp) (held := true) (n := 1) (cs := [.int .i64 vk, .int .i64 vn, .string s]) (xs := [(.lit (.int .i64 vk), []), (.lit (.int .i64 vn), []), (.lit (.string s.data.toList), [])]) Tryz.underlying24 (by simp [cellsV3]) (by simp [DataW.trod, Tryz.underlying3, Tryz.underlying9, cellsS1, cellsI1, w5, w6, w7])
    simpa using this
  have := trod_struct_mk (enc := enc) (w := W) (base := b1) (spare := sp) (held := true) (n := 2) (cs := [.string r, .string f, .string q, .int .i64 t, .int .i64 k, .int .i64 vk, .int .i64 vn, .string s]) (xs := [(.lit (.string r.data.toList), []), (.lit (.string f.data.toList), []), (.lit (.string q.data.toList), []), (.lit (.int .i64 t), []), (.lit (.int .i64 k), []), (.agg [.lit (.int .i64 vk), .lit (.int .i64 vn), .lit (.string s.data.toList)], [])]) Tryz.underlying26 (by simp [cellsC]) (by
      simp [cellsS1, cellsI1, cellsV3, hv]
      simp [DataW.trod, Tryz.underlying3, Tryz.underlying9, w0, w1, w2, w3, w4])
  exact ⟨3, by simpa [Value.cells] using this⟩
end
end Go.Proofs.YtfcnobcpnhfgmaaGreatDoor

/- A slice of bytes that came in, opened. Conditions: the reading's own reach. -/
namespace Go.Proofs.YtfcnobcpnhfgmaaGreatDoor
open Go.ChangeShapes Go.WideShapes Go.ChangeAt Go.RowKit

/-- Bytes read as numbers. -/
def u8s (zs : List Int) : List UInt8 := zs.map fun z => UInt8.ofNat z.toNat
theorem u8s_at (zs : List Int) (h : ∀ n ∈ zs, (Lit.int .u8 n).wf = true) (i : Nat) (hi : i < zs.length) : (((u8s zs).getD i 0).toNat : Int) = zs.getD i 0 := by
  have hz : zs[i]? = some (zs[i]'hi) := List.getElem?_eq_getElem _
  have hw := h (zs[i]'hi) (List.getElem_mem _)
  have b : 0 ≤ zs[i]'hi ∧ zs[i]'hi ≤ 255 := by
    simp [Lit.wf] at hw
    have h1 : IntKind.u8.min = 0 := rfl
    have h2 : IntKind.u8.max = 255 := rfl
    omega
  unfold u8s
  rw [List.getD_eq_getElem?_getD, List.getD_eq_getElem?_getD, List.getElem?_map, hz]
  simp only [Option.map_some, Option.getD_some]
  rw [UInt8.toNat_ofNat']
  omega
theorem sla_ints (a : Addr) (len cap : Nat) (zs : List Int) (W : World) (hl : len ≤ cap) (hm : cap ≤ 9223372036854775807) (hz : zs.length = cap) (hcell : ∀ i, i < zs.length → W.cell? (a.add i) = some (.int .u8 (zs.getD i 0))) (hwz : ∀ n ∈ zs, (Lit.int .u8 n).wf = true) :
    SlA W (.slice (some a) len cap) (u8s (zs.take len)) := by
  have hul : (u8s (zs.take len)).length = len := by unfold u8s; rw [List.length_map, List.length_take]; omega
  refine ⟨some a, cap, by rw [hul], by rw [hul]; exact hl, hm, fun h0 => ?_, fun h => by cases h⟩
  rw [hul] at h0
  obtain ⟨b, off, rfl, hc⟩ := ints_at hcell (by omega)
  refine ⟨b, off, rfl, fun i hi => ?_⟩
  rw [hul] at hi
  rw [hc i (by omega), u8s_at (zs.take len) (fun n hn => hwz n (List.mem_of_mem_take hn)) i (by rw [List.length_take]; omega)]
  simp only [List.getD_eq_getElem?_getD, List.getElem?_take_of_lt hi]
theorem sla_nil (W : World) : SlA W (.slice none 0 0) [] := ⟨none, 0, rfl, by simp, by omega, fun h => absurd h (by simp), fun _ => rfl⟩
theorem cells5 : Tryz.prog.cellsOf 5 = 1 := by kernel_rfl

section
variable {H : Type} {enc : TypeId × Value → H} {W : World} {sp : Nat → Bool}
set_option maxRecDepth 100000 in
/-- A slice of bytes that came in. -/
theorem open_sla {r : Reach} {b0 b1 : Nat} {v : Value} {d : DataW H} {p : List MemPlace} (hv : Value.okWide Tryz.prog W r b0 30 v) (h : DataW.Trod enc Tryz.prog W b1 (fun _ => true) true 30 v d p) : ∃ l, SlA W v l := by
  obtain ⟨a0, len, cap, rfl⟩ := okWide_slice Tryz.underlying30 hv
  obtain ⟨fuel, hf⟩ := h
  rcases open_ints Tryz.underlying30 Tryz.underlying5 cells5 hf with ⟨hcs, hx⟩ | ⟨a, len', cap', zs, hcs, _, hl, hm, hz, hx, hcell, hwz⟩
  · simp [Value.cells] at hcs
    obtain ⟨rfl, rfl, rfl⟩ := hcs
    exact ⟨[], sla_nil W⟩
  · simp [Value.cells] at hcs
    obtain ⟨rfl, rfl, rfl⟩ := hcs
    simp only [if_true] at hz
    exact ⟨_, sla_ints a len cap zs W hl (by unfold maxLen at hm; omega) hz hcell hwz⟩
end
end Go.Proofs.YtfcnobcpnhfgmaaGreatDoor
