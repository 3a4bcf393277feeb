/- The document's Bytes and Show (package joistref01), for every int; and the law FloatAsks. Conditions: ints of 64 bits; the table of math/bits reads as it is laid. -/
import Derived.Test.YtpjkhholpbfbpaaDoorFS
namespace Go.Proofs.YtpjkhholpbfbpaaDoor
open Go.RowKit

set_option maxHeartbeats 400000 in
theorem refBytes_no {n : Int} (hr : rightB n = false) (w : World) :
    Calls Tryd.prog 99 #[.int .i64 n] w fun e w' => e = .returned (.slice none 0 0) ∧ w = w' := by
  go_enter Tryd.func99, Tryd.ntmps99
  go_wp2_with (go_at_call 82; refine (refRight_any _ _).mono ?_; rintro e w' ⟨rfl, rfl⟩)
  go_ret
  exact ⟨rfl, rfl⟩

def RInv (r b : Nat) (w0 : World) (vu vi : Value) (wr : World) : Prop :=
  ∃ (j u : Nat) (i : Int) (xs : Array Value), j ≤ 8 ∧ i = 7 - j ∧ u = r / 256 ^ j ∧ vu = .int .u64 u ∧ vi = .int .i64 i ∧ Blk wr b 5 xs ∧ xs.size = 8 ∧ xs.toList.drop (8 - j) = bc (byW j r) ∧ Below b w0 wr

theorem byte_of (r j : Nat) : (((r / 256 ^ j : Nat) : Int) % 256) = ((UInt8.ofNat (r / 256 ^ j % 256)).toNat : Int) := by
  rw [UInt8.toNat_ofNat']
  have : r / 256 ^ j % 256 % 2 ^ 8 = r / 256 ^ j % 256 := Nat.mod_eq_of_lt (by omega)
  rw [this, Int.natCast_emod]
  rfl

set_option maxHeartbeats 1000000 in
theorem refBytes_core {n : Int} (hr : rightB n = true) (r : Nat) (hr64 : r < 18446744073709551616)
    (hsel : (n < 0 ∧ bits .xor .u64 IntKind.u64.max (IntKind.u64.wrap n) = (r : Int)) ∨ (¬ n < 0 ∧ IntKind.u64.wrap (IntKind.u64.wrap n + 9223372036854775808) = (r : Int))) (w : World) :
    Calls Tryd.prog 99 #[.int .i64 n] w fun e w' => e = .returned (.slice (some ⟨w.heap.size, 0, none⟩) 8 8) ∧ Blk w' w.heap.size 5 (bc (byW 8 r)).toArray ∧ Below w.heap.size w w' := by
  have hmk : ∀ W, (Instr.makeSlice 22 (.int .i64 8) (.int .i64 8)).run Tryd.prog W = .ok (.slice (some ⟨W.heap.size, 0, none⟩) 8 8) (W.alloc (.cells #[.int .u8 0, .int .u8 0, .int .u8 0, .int .u8 0, .int .u8 0, .int .u8 0, .int .u8 0, .int .u8 0] 5)) := fun _ => by kernel_rfl
  have HRt : Hid (∀ W, Calls Tryd.prog 82 #[.int .i64 n] W fun e w' => e = .returned (.bool true) ∧ W = w') := fun W => by rw [← hr]; exact refRight_any n W
  have HR := hid hr64
  clear hr64 hr
  rcases hsel with ⟨hn, hx⟩ | ⟨hn, hx⟩ <;>
  · go_enter Tryd.func99, Tryd.ntmps99
    go_wp2_with (go_at_call 82; refine (HRt.out _).mono ?_; rintro e w' ⟨rfl, rfl⟩)
    go_loopw [3, 5] (fun vu vi wr => RInv r w.heap.size w vu vi wr) (fun _ vi _ => (intOf vi + 1).toNat)
    case atStart => exact ⟨0, r, 7, _, by omega, rfl, by simp, rfl, rfl, Blk.new _ _ _, rfl, rfl, (Below.refl _ _).alloc (Nat.le_refl _) _⟩
    case round =>
      obtain ⟨j, u, i, xs, hj, hi, hu, rfl, rfl, hB, hs, hdrop, hbel⟩ := hrel
      clear hmk hn hx
      have hu64 : u < 18446744073709551616 := by rw [hu]; exact Nat.lt_of_le_of_lt (Nat.div_le_self _ _) HR.out
      have HB := hid hB
      have HS := hid hs
      have HD := hid hdrop
      have HU := hid hu
      by_cases hlt : j < 8
      · obtain ⟨k, rfl⟩ : ∃ k : Nat, i = k := ⟨7 - j, by omega⟩
        have hk : k ≤ 7 := by omega
        have HJ : Hid (k + j = 7) := hid (by omega)
        obtain ⟨v0, hcell⟩ : ∃ v, wr.cell? ⟨w.heap.size, k, none⟩ = some v := ⟨xs[k]'(by omega), by rw [hB.cell, Array.getElem?_eq_getElem]⟩
        have hfree := hB.free k
        clear hB hs hdrop hu hi hlt
        go_wp2
        go_roundw
        case rel =>
          have hjk := HJ.out
          refine ⟨j + 1, u / 256, (k : Int) - 1, xs.setIfInBounds k (Value.int .u8 ((UInt8.ofNat (r / 256 ^ j % 256)).toNat : Int)), by omega, by omega, ?_, by go_num, rfl, ?_, by rw [Array.size_setIfInBounds]; exact HS.out, ?_, hbel.setCell (Nat.le_refl _) _⟩
          · rw [HU.out, Nat.div_div_eq_div_mul, Nat.pow_succ]
          · rw [← byte_of, ← HU.out]
            exact HB.out.set k _
          · rw [show 8 - (j + 1) = k by omega]
            exact drop_set8 HS.out hk (by rw [show k + 1 = 8 - j by omega]; exact HD.out)
        case measure => simp [intOf]
      · obtain rfl : j = 8 := by omega
        obtain rfl : i = -1 := by omega
        have HD2 : Hid (Blk wr w.heap.size 5 (bc (byW 8 r)).toArray) := by
          have e : xs.toList = bc (byW 8 r) := hdrop
          rw [← e]
          exact hB
        clear hB hs hdrop hu
        go_wp2
        go_ret
        exact ⟨rfl, HD2.out, hbel⟩

theorem refBytes_yes {n : Int} (h : inI n) (hr : rightB n = true) (w : World) :
    Calls Tryd.prog 99 #[.int .i64 n] w fun e w' => e = .returned (.slice (some ⟨w.heap.size, 0, none⟩) 8 8) ∧ Blk w' w.heap.size 5 (bc (byW 8 (rankI n).toNat)).toArray ∧ Below w.heap.size w w' := by
  obtain ⟨r0, r1⟩ := rank_in h
  refine refBytes_core hr (rankI n).toNat (by omega) ?_ w
  rw [Int.toNat_of_nonneg r0]
  by_cases hn : n < 0
  · exact Or.inl ⟨hn, turned h hn⟩
  · refine Or.inr ⟨hn, ?_⟩
    rw [IntKind.wrap_u64, IntKind.wrap_u64]
    unfold rankI inI at *
    rw [if_neg hn]
    omega

end Go.Proofs.YtpjkhholpbfbpaaDoor
