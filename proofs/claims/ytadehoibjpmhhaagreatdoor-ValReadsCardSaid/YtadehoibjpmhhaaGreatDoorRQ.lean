/- The document's digit of a byte; the end of the document's Read, behind each kind of text but decimals and quoted texts. Conditions: as each theorem names them. -/
import Derived.Test.YtadehoibjpmhhaaGreatDoorRK
import Derived.Test.YtadehoibjpmhhaaGreatDoorRN
import Derived.Test.YtadehoibjpmhhaaGreatDoorMC
import Derived.Test.YtadehoibjpmhhaaGreatDoorVQ
namespace Go.Proofs.YtadehoibjpmhhaaGreatDoor
open Go.RowKit

def DgInv (c : Nat) (vd' : Value) : Prop := ∃ d : Nat, d ≤ 16 ∧ d ≤ dvN c ∧ vd' = .int .i64 d

set_option maxHeartbeats 2000000 in
theorem refdigit_any (c : Nat) (hc256 : c < 256) (W : World) :
    Calls Tryz.prog 20 #[.int .u8 (c : Int)] W fun e w' => e = .returned (.int .i64 (vd c : Nat)) ∧ W = w' := by
  go_enter Tryz.func20, Tryz.ntmps20
  go_wp2
  go_loop [3] (fun vd' => DgInv c vd') (fun vd' => 16 - (intOf vd').toNat)
  case atStart => exact ⟨0, by omega, by omega, rfl⟩
  case round =>
    obtain ⟨d, hd, hle, rfl⟩ := hrel
    by_cases hd16 : d < 16
    · have hdq : ((⟨#[48, 49, 50, 51, 52, 53, 54, 55, 56, 57, 97, 98, 99, 100, 101, 102]⟩ : ByteArray)[d]'(show d < 16 from hd16)).toNat = (dg d).toNat := lit_at d hd16
      obtain ⟨q, hq⟩ : ∃ q, (dg d).toNat = q := ⟨_, rfl⟩
      rw [hq] at hdq
      by_cases heq : dvN c = d
      · have hqc : ((q : Int) == (c : Int)) = true := by
          have := (dv_dg d hd16 c hc256).2 heq
          rw [hq] at this
          simp [this]
        have HEQ : Hid (vd c = d) := hid (by unfold vd; rw [heq, if_pos hd16])
        clear heq hq hc256
        go_wp2
        go_ret
        refine ⟨?_, rfl⟩
        rw [HEQ.out]
        rfl
      · have hqc : ((q : Int) == (c : Int)) = false := by
          have := mt (dv_dg d hd16 c hc256).1 heq
          rw [hq] at this
          simpa using fun h => this (by omega)
        have HEQ := hid heq
        have HLE := hid hle
        clear heq hq hc256 hle
        go_wp2
        go_round
        case rel => exact ⟨d + 1, by omega, by have := HEQ.out; have := HLE.out; omega, by go_num⟩
        case measure => simp [intOf]; omega
    · obtain rfl : d = 16 := by omega
      have HEQ : Hid (vd c = 0) := hid (by unfold vd; rw [if_neg (by omega)])
      go_wp2
      go_ret
      refine ⟨?_, rfl⟩
      rw [HEQ.out]
      rfl

end Go.Proofs.YtadehoibjpmhhaaGreatDoor
