/- Right cells; cells that are no greater than any are. -/
import Derived.Test.YtfcnobcpnhfgmaaDoorHB
namespace Go.Proofs.YtfcnobcpnhfgmaaDoor
open Go.RowKit

/-- A cell as a program may hold it. -/
def okC (c : CT) : Prop := c.f.size ≤ 9223372036854775807 ∧ c.s.size ≤ 9223372036854775807 ∧ inI c.vn
/-- Is a cell right? -/
def CT.ok (c : CT) : Bool := cRight c.r.data.toList c.f.data.toList c.q.data.toList c.t c.k c.vk c.vn c.s.data.toList
end Go.Proofs.YtfcnobcpnhfgmaaDoor
