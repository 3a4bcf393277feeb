/- The document's Eight, for every number of 64 bits. Conditions: none. -/
import Derived.Test.YtpjkhholpbfbpaaDoorRF
import Derived.Test.YtpjkhholpbfbpaaDoorFT
namespace Go.Proofs.YtpjkhholpbfbpaaDoor
open Go.RowKit

set_option maxHeartbeats 1000000 in
theorem eight_any (r : Nat) (hr64 : r < 18446744073709551616) (w : World) :
    Calls Tryd.prog 98 #[.int .u64 (r : Int)] w fun e w' => e = .returned (.slice (some ⟨w.heap.size, 0, none⟩) 8 8) ∧ Blk w' w.heap.size 5 (bc (byW 8 r)).toArray ∧ Below w.heap.size w w' := by
  have hmk : ∀ W, (Instr.makeSlice 22 (.int .i64 8) (.int .i64 8)).run Tryd.prog W = .ok (.slice (some ⟨W.heap.size, 0, none⟩) 8 8) (W.alloc (.cells #[.int .u8 0, .int .u8 0, .int .u8 0, .int .u8 0, .int .u8 0, .int .u8 0, .int .u8 0, .int .u8 0] 5)) := fun _ => by kernel_rfl
  have HR := hid hr64
  clear hr64
  go_enter Tryd.func98, Tryd.ntmps98
  go_wp2
  go_loopw [0, 4] (fun vu vi wr => RInv r w.heap.size w vu vi wr) (fun _ vi _ => (intOf vi + 1).toNat)
  case atStart => exact ⟨0, r, 7, _, by omega, rfl, by simp, rfl, rfl, Blk.new _ _ _, rfl, rfl, (Below.refl _ _).alloc (Nat.le_refl _) _⟩
  case round =>
    obtain ⟨j, u, i, xs, hj, hi, hu, rfl, rfl, hB, hs, hdrop, hbel⟩ := hrel
    clear hmk
    have hu64 : u < 18446744073709551616 := by rw [hu]; exact Nat.lt_of_le_of_lt (Nat.div_le_self _ _) HR.out
    have HB := hid hB
    have HS := hid hs
    have HD := hid hdrop
    have HU := hid hu
    by_cases hlt : j < 8
    · obtain ⟨k, rfl⟩ : ∃ k : Nat, i = k := ⟨7 - j, by omega⟩
      have hk : k ≤ 7 := by omega
      have HJ : Hid (k + j = 7) := hid (by omega)
      obtain ⟨v0, hcell⟩ : ∃ v, wr.cell? ⟨w.heap.size, k, none⟩ = some v := ⟨xs[k]'(by omega), by rw [hB.cell, Array.getElem?_eq_getElem]⟩
      have hfree := hB.free k
      clear hB hs hdrop hu hi hlt
      go_wp2
      go_roundw
      case rel =>
        have hjk := HJ.out
        refine ⟨j + 1, u / 256, (k : Int) - 1, xs.setIfInBounds k (Value.int .u8 ((UInt8.ofNat (r / 256 ^ j % 256)).toNat : Int)), by omega, by omega, ?_, by go_num, rfl, ?_, by rw [Array.size_setIfInBounds]; exact HS.out, ?_, hbel.setCell (Nat.le_refl _) _⟩
        · rw [HU.out, Nat.div_div_eq_div_mul, Nat.pow_succ]
        · rw [← byte_of, ← HU.out]
          exact HB.out.set k _
        · rw [show 8 - (j + 1) = k by omega]
          exact drop_set8 HS.out hk (by rw [show k + 1 = 8 - j by omega]; exact HD.out)
      case measure => simp [intOf]
    · obtain rfl : j = 8 := by omega
      obtain rfl : i = -1 := by omega
      have HD2 : Hid (Blk wr w.heap.size 5 (bc (byW 8 r)).toArray) := by
        have e : xs.toList = bc (byW 8 r) := hdrop
        rw [← e]
        exact hB
      clear hB hs hdrop hu
      go_wp2
      go_ret
      exact ⟨rfl, HD2.out, hbel⟩


end Go.Proofs.YtpjkhholpbfbpaaDoor
