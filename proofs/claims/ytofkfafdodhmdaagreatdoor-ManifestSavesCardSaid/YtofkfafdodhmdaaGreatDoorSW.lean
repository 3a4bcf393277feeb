/- A world in which the listed variable of layer 4's laws is laid, for the witness; slices of bytes that came in, opened. -/
import Derived.Test.YtofkfafdodhmdaaGreatDoorNE
import Derived.Test.YtofkfafdodhmdaaGreatDoorCards
import Derived.Test.YtofkfafdodhmdaaGreatDoorTie
import Derived.WalkKit
import Derived.ProofKit
import Derived.OpenShut
import Derived.LaidLaws
import Derived.Deep.DeepHandedRow
import Derived.Lib.LaidTab
namespace Go.Proofs.YtofkfafdodhmdaaGreatDoor
open Go.ChangeShapes Go.WideShapes Go.ChangeAt Go.RowKit

theorem seat_own : ownKnob Tryz.prog.godebug = none := by kernel_rfl
theorem laid_out : laidOutB Tryz.prog = true := by kernel_rfl
def seatLaid4 : List (String × DataW Unit) := [("bytes.ErrTooLarge", Rows.laid_bytes_ErrTooLarge)]

/-- A world for the witness: the settled one, one block more for the error's text, the listed variable holding what its initialiser lays. -/
noncomputable def laidWorld4 (os : Os) : World :=
  let w0 := World.holding Tryz.prog os ⟨#[.cells #[.string ⟨#[98, 121, 116, 101, 115, 46, 66, 117, 102, 102, 101, 114, 58, 32, 116, 111, 111, 32, 108, 97, 114, 103, 101]⟩] 223], #[], []⟩
  { w0 with heap := w0.heap.modify 0 fun
      | .cells _ t frozen => .cells #[.iface 208 (.pointer (some ⟨(World.settled Tryz.prog os).heap.size, 0, none⟩))] t frozen
      | o => o }

set_option maxRecDepth 1000000 in
theorem laid_met4 (os : Os) (args : Array Value) : laidMet Tryz.prog seatLaid4 ((laidWorld4 os).forCall (fun _ _ => 0) ⟨#[], args, []⟩).memory :=
  laidMet_of_run' 8 (by kernel_rfl) (by kernel_rfl)

/-- Bytes read as numbers. -/
def u8s (zs : List Int) : List UInt8 := zs.map fun z => UInt8.ofNat z.toNat
theorem u8s_at (zs : List Int) (h : ∀ n ∈ zs, (Lit.int .u8 n).wf = true) (i : Nat) (hi : i < zs.length) : (((u8s zs).getD i 0).toNat : Int) = zs.getD i 0 := by
  have hz : zs[i]? = some (zs[i]'hi) := List.getElem?_eq_getElem _
  have hw := h (zs[i]'hi) (List.getElem_mem _)
  have b : 0 ≤ zs[i]'hi ∧ zs[i]'hi ≤ 255 := by
    simp [Lit.wf] at hw
    have h1 : IntKind.u8.min = 0 := rfl
    have h2 : IntKind.u8.max = 255 := rfl
    omega
  unfold u8s
  rw [List.getD_eq_getElem?_getD, List.getD_eq_getElem?_getD, List.getElem?_map, hz]
  simp only [Option.map_some, Option.getD_some]
  rw [UInt8.toNat_ofNat']
  omega
theorem sla_ints (a : Addr) (len cap : Nat) (zs : List Int) (W : World) (hl : len ≤ cap) (hm : cap ≤ 9223372036854775807) (hz : zs.length = cap) (hcell : ∀ i, i < zs.length → W.cell? (a.add i) = some (.int .u8 (zs.getD i 0))) (hwz : ∀ n ∈ zs, (Lit.int .u8 n).wf = true) :
    SlA W (.slice (some a) len cap) (u8s (zs.take len)) := by
  have hul : (u8s (zs.take len)).length = len := by unfold u8s; rw [List.length_map, List.length_take]; omega
  refine ⟨some a, cap, by rw [hul], by rw [hul]; exact hl, hm, fun h0 => ?_, fun h => by cases h⟩
  rw [hul] at h0
  obtain ⟨b, off, rfl, hc⟩ := ints_at hcell (by omega)
  refine ⟨b, off, rfl, fun i hi => ?_⟩
  rw [hul] at hi
  rw [hc i (by omega), u8s_at (zs.take len) (fun n hn => hwz n (List.mem_of_mem_take hn)) i (by rw [List.length_take]; omega)]
  simp only [List.getD_eq_getElem?_getD, List.getElem?_take_of_lt hi]
theorem sla_nil (W : World) : SlA W (.slice none 0 0) [] := ⟨none, 0, rfl, by simp, by omega, fun h => absurd h (by simp), fun _ => rfl⟩
theorem cells5 : Tryz.prog.cellsOf 5 = 1 := by kernel_rfl

section
variable {H : Type} {enc : TypeId × Value → H} {W : World} {sp : Nat → Bool}
set_option maxRecDepth 100000 in
/-- A slice of bytes that came in. -/
theorem open_sla {r : Reach} {b0 b1 : Nat} {v : Value} {d : DataW H} {p : List MemPlace} (hv : Value.okWide Tryz.prog W r b0 25 v) (h : DataW.Trod enc Tryz.prog W b1 (fun _ => true) true 25 v d p) : ∃ l, SlA W v l := by
  obtain ⟨a0, len, cap, rfl⟩ := okWide_slice Tryz.underlying25 hv
  obtain ⟨fuel, hf⟩ := h
  rcases open_ints Tryz.underlying25 Tryz.underlying5 cells5 hf with ⟨hcs, hx⟩ | ⟨a, len', cap', zs, hcs, _, hl, hm, hz, hx, hcell, hwz⟩
  · simp [Value.cells] at hcs
    obtain ⟨rfl, rfl, rfl⟩ := hcs
    exact ⟨[], sla_nil W⟩
  · simp [Value.cells] at hcs
    obtain ⟨rfl, rfl, rfl⟩ := hcs
    simp only [if_true] at hz
    exact ⟨_, sla_ints a len cap zs W hl (by unfold maxLen at hm; omega) hz hcell hwz⟩
end
end Go.Proofs.YtofkfafdodhmdaaGreatDoor
