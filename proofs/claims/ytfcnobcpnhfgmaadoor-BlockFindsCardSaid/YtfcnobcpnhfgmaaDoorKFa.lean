/- append of one cell as one step of a region that draws. Conditions: as it names them. -/
import Derived.Test.YtfcnobcpnhfgmaaDoorKD
namespace Go.Proofs.YtfcnobcpnhfgmaaDoor
open Go.RowKit

theorem step_append_cell {ops : Array Oper} {o : Oper} {a : Act} {K : Act → World → Prop} {Q : Exit → Act → World → Prop} {E : Prop} (hgd : o.guard = Option.none) (s x : Operand)
    (ho : o.op = .call { callee := .builtin .append, args := #[s, x], argTypes := #[22, 22] })
    (w : World) (base : Nat) (v : Value) (l : List CT) (hs : a.eval s = v) (hown : CRow w base v l)
    (G m : Nat) (hx : a.eval x = .slice (some ⟨G, 0, Option.none⟩) 1 m) (y : CT) (hc : ∀ j u, y.e[j]? = some u → w.cell? ((⟨G, 0, Option.none⟩ : Addr).add j) = some u)
    (hlen : l.length ≤ 1466015503658) (hbase : base ≤ w.heap.size)
    (hK : ∀ v' w', CRow w' base v' (l ++ [y]) → Below base w w' → K (a.put o.dst v') w') :
    if Region.wanted o (yielded ops a.tmps) = true then Oper.wp Tryd.prog o a w K Q else E := by
  have hw : Region.wanted o (yielded ops a.tmps) = true := by simp [Region.wanted, hgd]
  rw [if_pos hw]
  obtain ⟨i0, hi, hz0, hz1, hz2⟩ := info_parts info_cell
  obtain ⟨v', w', hrun, r1, r2, _⟩ := run_append_own (P := Tryd.prog) w base 22 o.type 40 i0 _ 8 96 Tryd.underlying22 hi hz0 hz1 hz2 rfl (by decide) v l.length (flatC l) hown ⟨G, 0, Option.none⟩ 1 m y.e (CT.e_len y) hc y.e_one (by unfold maxLen; omega) (by omega) hbase
  unfold Oper.wp
  simp [execOp, ho, resolve, invoke, builtin, hs, hx, hrun, Result.andThen]
  refine hK v' w' ?_ ((Below.refl _ _).grown r2 hbase fun k hk => (World.ownsRow.lt hown k hk).1)
  unfold CRow
  rw [flatC_app, flatC_one, List.length_append]
  exact r1
end Go.Proofs.YtfcnobcpnhfgmaaDoor
