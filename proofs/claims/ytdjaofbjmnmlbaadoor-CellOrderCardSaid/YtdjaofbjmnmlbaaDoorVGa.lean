/- A byte of a text. Conditions: none. -/
import Derived.Test.YtdjaofbjmnmlbaaDoorVF
namespace Go.Proofs.YtdjaofbjmnmlbaaDoor
open Go.RowKit

theorem string_at (s : ByteArray) (k : Nat) (h : k < s.size) (W : World) : (Instr.index 9 (.string s) (.int .i64 (k : Int))).run Tryd.prog W = .ok (.int .u8 (s[k].toNat : Int)) W := by
  have h0 : (0 : Int) ≤ (k : Int) := by omega
  simp [Instr.index, run_underlying Tryd.underlying9, asIntOf, h0, h]
theorem Row.drewN {w : World} {B : Nat} {v : Value} {l : List UInt8} (h : Row w B v l) (n : Nat) : Row (w.drewN n) B v l := h
end Go.Proofs.YtdjaofbjmnmlbaaDoor
