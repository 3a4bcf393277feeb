/- An argument []api.Cell opened, with how long it may be: the reach of the machine's memory bounds it. Conditions: as it names them. -/
import Derived.Test.YtfcnobcpnhfgmaaDoorIF
import Derived.Handed
import Derived.SizedLaws
namespace Go.Proofs.YtfcnobcpnhfgmaaDoor
open Go.ChangeShapes Go.WideShapes Go.ChangeAt Go.RowKit

theorem bytesCell : Tryd.prog.bytesOf 40 = 96 := by kernel_rfl
section
variable {H : Type} {enc : TypeId × Value → H} {W : World}
set_option maxRecDepth 100000 in
theorem open_cla2 {r : Reach} {b0 b1 : Nat} {v : Value} {d : DataW H} {p : List MemPlace} (hv : Value.okWide Tryd.prog W r b0 22 v) (h : DataW.Trod enc Tryd.prog W b1 (fun _ => true) true 22 v d p)
    (hw : ∀ n ∈ d.weights Tryd.prog 22, n ≤ reachBytes) : ∃ l, ClA W v l ∧ (∀ c ∈ l, inI c.vn) ∧ l.length ≤ 1466015503658 := by
  obtain ⟨l, hC, hn⟩ := open_cla hv h
  refine ⟨l, hC, hn, ?_⟩
  obtain ⟨A, c, e, _⟩ := hC
  obtain ⟨a0, len, cap, rfl⟩ := okWide_slice Tryd.underlying22 hv
  have el : len = l.length := by injection e
  obtain ⟨fuel, hf⟩ := h
  rcases DataW.trod_slice Tryd.underlying22 hf with ⟨hcs, _⟩ | ⟨a, len', cap', elems, rest, n, hfu, hcs, hx, hb, hl, hm, he, _⟩
  · simp [Value.cells] at hcs
    omega
  · simp [Value.cells] at hcs
    obtain ⟨rfl, rfl, rfl⟩ := hcs
    have hd := (Prod.mk.inj hx).1
    have hb : (elems.length + rest.length) * 96 ≤ reachBytes := by
      apply hw
      rw [hd]
      simp only [DataW.weights, Tryd.underlying22, bytesCell, List.length_map]
      exact List.mem_cons_self
    unfold reachBytes at hb
    omega
end
end Go.Proofs.YtfcnobcpnhfgmaaDoor
