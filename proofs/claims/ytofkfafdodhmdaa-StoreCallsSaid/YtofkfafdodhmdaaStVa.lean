/- What a crash leaves; rows and their forms. Conditions: none. -/
import Derived.Test.YtofkfafdodhmdaaStPa
import Derived.Test.YtofkfafdodhmdaaSOa
import Derived.Test.YtofkfafdodhmdaaRBb
namespace Go.Proofs.Ytofkfafdodhmdaa
open Go.RowKit

/-- What a crash leaves. -/
def crF (fs : List Fl) (l : List Pc) (K : Int) : List Fl := ((fs.map (mF l K)).filter keepB).map cutF
theorem row_form {w : World} {N : Nat} {v : Value} {l : List UInt8} (h : Row w N v l) {n : Nat} (hn : l.length = n) : ∃ A c, v = .slice A n c := by
  obtain ⟨A, c, e, _⟩ := h.sla
  exact ⟨A, c, by rw [e, hn]⟩
theorem row_low {w : World} {N M : Nat} {v : Value} {l : List UInt8} (h : Row w N v l) (hM : M ≤ N) : Row w M v l :=
  ⟨h.1, h.2.imp id fun ⟨g, cap, cur, e, hg, rest⟩ => ⟨g, cap, cur, e, Nat.le_trans hM hg, rest⟩⟩
end Go.Proofs.Ytofkfafdodhmdaa
