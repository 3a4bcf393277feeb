/- Plain mathematics of values of five kinds: which are right, their order, their bytes. No program in it. -/
import Derived.Test.YtfcnobcpnhfgmaaDoorFRa
import Derived.Lib.ValidLaws
import Derived.Lib.Bytealg
namespace Go.Proofs.YtfcnobcpnhfgmaaDoor
open Go.RowKit

/-- Is the value (kind k, number n, bytes s) right? -/
def vRight (k n : Int) (s : List UInt8) : Bool :=
  if k = 1 then s.isEmpty else if k = 2 then n == 0 && decide (s.length ≤ 32) else if k = 3 then n == 0 && decide (s.length ≤ 32) && Lib.validD s
  else if k = 4 then s.isEmpty && (n == 0 || n == 1) else if k = 5 then s.isEmpty && rightB n else false
def vNum (k a b : Int) : Int := if k = 5 then ordI a b else cmpI a b
def vOrd (k1 n1 : Int) (s1 : List UInt8) (k2 n2 : Int) (s2 : List UInt8) : Int :=
  if k1 = k2 then (if vNum k1 n1 n2 = 0 then Lib.compareBytes s1 s2 else vNum k1 n1 n2) else cmpI k1 k2

/-- Bytes in which each 0 is 0, 255. -/
def esc : List UInt8 → List UInt8
  | [] => []
  | c :: l => if c = 0 then 0 :: 255 :: esc l else c :: esc l
theorem esc_app (a b : List UInt8) : esc (a ++ b) = esc a ++ esc b := by
  induction a with
  | nil => rfl
  | cons c l ih => simp only [List.cons_append, esc, ih]; split <;> rfl
theorem esc_len (l : List UInt8) : (esc l).length ≤ 2 * l.length := by
  induction l with
  | nil => simp [esc]
  | cons c l ih => simp only [esc]; split <;> simp <;> omega

/-- The number of an int's eight bytes. -/
def upI (n : Int) : Nat := (n + 9223372036854775808).toNat
theorem upI_lt {n : Int} (h : inI n) : upI n < 18446744073709551616 := by unfold upI inI at *; omega
/-- The bytes behind the kind. -/
def vBody (k n : Int) (s : List UInt8) : List UInt8 :=
  if k = 1 then byW 8 (upI n) else if k = 5 then byW 8 (rankI n).toNat else if k = 4 then [UInt8.ofNat n.toNat] else esc s ++ [0, 1]
def vEnc (k n : Int) (s : List UInt8) : List UInt8 := UInt8.ofNat k.toNat :: vBody k n s

theorem right_kind {k n : Int} {s : List UInt8} (h : vRight k n s = true) : k = 1 ∨ k = 2 ∨ k = 3 ∨ k = 4 ∨ k = 5 := by
  unfold vRight at h
  by_cases h1 : k = 1; · omega
  by_cases h2 : k = 2; · omega
  by_cases h3 : k = 3; · omega
  by_cases h4 : k = 4; · omega
  by_cases h5 : k = 5; · omega
  rw [if_neg h1, if_neg h2, if_neg h3, if_neg h4, if_neg h5] at h
  cases h
theorem right_len {k n : Int} {s : List UInt8} (h : vRight k n s = true) : s.length ≤ 32 := by
  rcases right_kind h with rfl | rfl | rfl | rfl | rfl <;> simp [vRight] at h <;> simp [h] <;> omega

end Go.Proofs.YtfcnobcpnhfgmaaDoor
