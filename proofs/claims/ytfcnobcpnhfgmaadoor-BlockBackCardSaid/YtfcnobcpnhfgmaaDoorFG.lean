/- float.Bytes for every int: nothing for one that isn't right, else new memory with the eight bytes of its rank, the highest first. Conditions: an int of 64 bits. -/
import Derived.Test.YtfcnobcpnhfgmaaDoorFK
import Derived.Test.YtfcnobcpnhfgmaaDoorFL
namespace Go.Proofs.YtfcnobcpnhfgmaaDoor
open Go.RowKit

set_option maxHeartbeats 400000 in
theorem bytes_no {n : Int} (h : inI n) (hr : rightB n = false) (w : World) :
    Calls Tryd.prog 96 #[.int .i64 n] w fun e w' => e = .returned (.slice none 0 0) ∧ w = w' := by
  go_enter Tryd.func96, Tryd.ntmps96
  go_wp2_with (go_at_call 135; refine (right_any h _).mono ?_; rintro e w' ⟨rfl, rfl⟩)
  go_ret
  exact ⟨rfl, rfl⟩

theorem byte_at (r i : Nat) : ((r : Int) / 2 ^ (8 * i) % 256) = ((UInt8.ofNat (r / 256 ^ i % 256)).toNat : Int) := by
  have e : (2 : Nat) ^ (8 * i) = 256 ^ i := by rw [Nat.pow_mul]
  have e2 : ((2 : Int) ^ (8 * i)) = ((256 ^ i : Nat) : Int) := by rw [← e, Int.natCast_pow]; rfl
  rw [e2, UInt8.toNat_ofNat']
  have : r / 256 ^ i % 256 % 2 ^ 8 = r / 256 ^ i % 256 := Nat.mod_eq_of_lt (by omega)
  rw [this, Int.natCast_emod, Int.natCast_ediv]
  rfl
theorem drop_set8 {xs : Array Value} {k j r : Nat} (hs : xs.size = 8) (hk : k ≤ 7) (hd : xs.toList.drop (k + 1) = bc (byW j r)) :
    (xs.setIfInBounds k (Value.int .u8 ((UInt8.ofNat (r / 256 ^ j % 256)).toNat : Int))).toList.drop k = bc (byW (j + 1) r) := by
  rw [byW_cons]
  unfold bc at *
  rw [List.map_cons, ← hd, Array.toList_setIfInBounds, List.drop_set, if_neg (by omega), Nat.sub_self]
  rw [List.drop_eq_getElem_cons (by simp; omega)]
  rfl

/-- What the loop knows: i bytes have been laid. -/
def BInv (r b : Nat) (w0 : World) (vi : Value) (wr : World) : Prop :=
  ∃ (i : Nat) (xs : Array Value), i ≤ 8 ∧ vi = .int .i64 i ∧ Blk wr b 5 xs ∧ xs.size = 8 ∧ xs.toList.drop (8 - i) = bc (byW i r) ∧ Below b w0 wr

set_option maxHeartbeats 1000000 in
theorem bytes_yes {n : Int} (h : inI n) (hr : rightB n = true) (w : World) :
    Calls Tryd.prog 96 #[.int .i64 n] w fun e w' => e = .returned (.slice (some ⟨w.heap.size, 0, none⟩) 8 8) ∧ Blk w' w.heap.size 5 (bc (byW 8 (rankI n).toNat)).toArray ∧ Below w.heap.size w w' := by
  have hmk : ∀ W, (Instr.makeSlice 26 (.int .i64 8) (.int .i64 8)).run Tryd.prog W = .ok (.slice (some ⟨W.heap.size, 0, none⟩) 8 8) (W.alloc (.cells #[.int .u8 0, .int .u8 0, .int .u8 0, .int .u8 0, .int .u8 0, .int .u8 0, .int .u8 0, .int .u8 0] 5)) := fun _ => by kernel_rfl
  obtain ⟨r0, r1⟩ := rank_in h
  have HRk : Hid (∀ W, Calls Tryd.prog 136 #[.int .i64 n] W fun e w' => e = .returned (.int .u64 (rankI n)) ∧ W = w') := fun W => rank_any h W
  have HRt : Hid (∀ W, Calls Tryd.prog 135 #[.int .i64 n] W fun e w' => e = .returned (.bool (rightB n)) ∧ W = w') := fun W => right_any h W
  obtain ⟨r, hrk⟩ := toNat_ofNat r0
  rw [hrk] at HRk r0 r1 ⊢
  rw [hr] at HRt
  rw [Int.toNat_natCast]
  clear hrk h hr
  go_enter Tryd.func96, Tryd.ntmps96
  go_wp2_with (first | (go_at_call 135; refine (HRt.out _).mono ?_; rintro e w' ⟨rfl, rfl⟩) | (go_at_call 136; refine (HRk.out _).mono ?_; rintro e w' ⟨rfl, rfl⟩))
  go_loopw [14] (fun vi wr => BInv r w.heap.size w vi wr) (fun vi _ => 8 - (intOf vi).toNat)
  case atStart => exact ⟨0, _, by omega, rfl, Blk.new _ _ _, rfl, rfl, (Below.refl _ _).alloc (Nat.le_refl _) _⟩
  case round =>
    obtain ⟨i, xs, hi, rfl, hB, hs, hdrop, hbel⟩ := hrel
    by_cases hlt : i < 8
    · have HB := hid hB
      have HS := hid hs
      have HD := hid hdrop
      obtain ⟨v0, hcell⟩ : ∃ v, wr.cell? ⟨w.heap.size, 7 - i, none⟩ = some v := ⟨xs[7 - i]'(by omega), by rw [hB.cell, Array.getElem?_eq_getElem]⟩
      have hfree := hB.free (7 - i)
      clear hB hs hdrop hmk r0 r1
      go_wp2
      go_roundw
      case rel =>
        refine ⟨i + 1, xs.setIfInBounds (7 - i) (Value.int .u8 ((UInt8.ofNat (r / 256 ^ i % 256)).toNat : Int)), by omega, by go_num, ?_, by rw [Array.size_setIfInBounds]; exact HS.out, ?_, hbel.setCell (Nat.le_refl _) _⟩
        · rw [← byte_at]
          exact HB.out.set (7 - i) _
        · rw [show 8 - (i + 1) = 7 - i by omega]
          exact drop_set8 HS.out (by omega) (by rw [show 7 - i + 1 = 8 - i by omega]; exact HD.out)
      case measure => simp [intOf]; omega
    · obtain rfl : i = 8 := by omega
      have HD : Hid (Blk wr w.heap.size 5 (bc (byW 8 r)).toArray) := by
        have e : xs.toList = bc (byW 8 r) := hdrop
        rw [← e]
        exact hB
      clear hB hs hdrop hmk r0 r1
      go_wp2
      go_ret
      exact ⟨rfl, HD.out, hbel⟩

end Go.Proofs.YtfcnobcpnhfgmaaDoor
