/- float.From for every slice of bytes: the number of its eight bytes, or nought and false. Conditions: the slice holds those bytes. -/
import Derived.Test.YtfcnobcpnhfgmaaDoorFG
import Derived.Test.YtfcnobcpnhfgmaaDoorFN
namespace Go.Proofs.YtfcnobcpnhfgmaaDoor
open Go.RowKit

def unrankI (r : Int) : Int := if r < 9223372036854775808 then -1 - r else r - 9223372036854775808
theorem unrank_rank {n : Int} (h : inI n) : unrankI (rankI n) = n := by unfold unrankI rankI inI at *; repeat' split <;> omega
theorem unrank_in {r : Int} (h0 : 0 ≤ r) (h : r < 18446744073709551616) : inI (unrankI r) := by unfold unrankI inI; split <;> omega

theorem topR {r : Int} (h0 : 0 ≤ r) (h : r < 18446744073709551616) : (bits .and .u64 r 9223372036854775808 != 0) = decide (9223372036854775808 ≤ r) := by
  rw [u64_and _ _ (by omega) (by omega) (by omega) (by omega)]
  have e : r.toNat &&& (9223372036854775808 : Int).toNat = r.toNat / 2 ^ 63 % 2 * 2 ^ 63 := nat_bit 63 _
  rw [e]
  by_cases hn : 9223372036854775808 ≤ r
  · rw [decide_eq_true hn, bne_iff_ne]; omega
  · rw [decide_eq_false hn]; simp; omega
theorem turnR {r : Int} (h0 : 0 ≤ r) (h : r < 18446744073709551616) : bits .xor .u64 IntKind.u64.max r = 18446744073709551615 - r := by
  have hm : IntKind.u64.max = 18446744073709551615 := rfl
  rw [hm, u64_xor _ _ (by omega) (by omega) (by omega) (by omega)]
  obtain ⟨k, rfl⟩ := toNat_ofNat h0
  have hk2 : k < 2 ^ 64 := by omega
  have e : (18446744073709551615 : Int).toNat ^^^ (k : Int).toNat = 2 ^ 64 - 1 - k := by
    rw [show (18446744073709551615 : Int).toNat = 2 ^ 64 - 1 from rfl, Int.toNat_natCast]
    apply Nat.eq_of_testBit_eq
    intro i
    rw [Nat.testBit_xor, Nat.testBit_two_pow_sub_one, show 2 ^ 64 - 1 - k = 2 ^ 64 - (k + 1) by omega, Nat.testBit_two_pow_sub_succ hk2]
    by_cases hi : i < 64
    · simp [hi]
    · have : k.testBit i = false := Nat.testBit_lt_two_pow (Nat.lt_of_lt_of_le hk2 (Nat.pow_le_pow_right (by omega) (by omega)))
      simp [hi, this]
  rw [e]
  omega
theorem clearR {r : Int} (h0 : 0 ≤ r) (h : r < 18446744073709551616) : bits .andNot .u64 r 9223372036854775808 = r % 9223372036854775808 := by
  rw [u64_andNot _ _ (by omega) (by omega) (by omega) (by omega)]
  have e : r.toNat &&& (18446744073709551615 - (9223372036854775808 : Int).toNat) = r.toNat % 2 ^ 63 := Nat.and_two_pow_sub_one_eq_mod _ 63
  rw [e]
  omega

set_option maxHeartbeats 400000 in
theorem unrank_any {r : Int} (h0 : 0 ≤ r) (h : r < 18446744073709551616) (w : World) :
    Calls Tryd.prog 176 #[.int .u64 r] w fun e w' => e = .returned (.int .i64 (unrankI r)) ∧ w = w' := by
  have ht := topR h0 h
  have hx := turnR h0 h
  have hcl := clearR h0 h
  by_cases hn : 9223372036854775808 ≤ r
  · rw [decide_eq_true hn] at ht
    have hw : wrap64 (bits .andNot .u64 r 9223372036854775808) = unrankI r := by rw [hcl]; unfold wrap64 unrankI; rw [if_neg (by omega)]; omega
    rw [← hw]
    clear hx hcl hn h h0 hw
    go_enter Tryd.func176, Tryd.ntmps176
    go_wp2
    go_ret
    exact ⟨rfl, rfl⟩
  · rw [decide_eq_false hn] at ht
    have hw : wrap64 (bits .xor .u64 IntKind.u64.max r) = unrankI r := by rw [hx]; unfold wrap64 unrankI; rw [if_pos (by omega)]; omega
    rw [← hw]
    clear hx hcl hn h h0 hw
    go_enter Tryd.func176, Tryd.ntmps176
    go_wp2
    go_ret
    exact ⟨rfl, rfl⟩

theorem or_byte {r : Int} (h0 : 0 ≤ r) (h : r < 72057594037927936) (x : Nat) (hx : x < 256) : bits .or .u64 (r * 256) (x : Int) = r * 256 + x := by
  rw [u64_or _ _ (by omega) (by omega) (by omega) (by omega), Int.toNat_natCast]
  have e := nat_join 8 (r * 256).toNat x (by omega) hx
  rw [e]
  omega

set_option maxHeartbeats 1000000 in
theorem from_no {a : Option Addr} (n c : Nat) (hn : n ≠ 8) (w : World) :
    Calls Tryd.prog 159 #[.slice a n c] w fun e w' => e = .returned (.tuple #[.int .i64 0, .bool false]) ∧ w = w' := by
  have h8 : ((n : Int) == 8) = false := by simpa using fun h => hn (by omega)
  go_enter Tryd.func159, Tryd.ntmps159
  go_wp2
  go_ret2
  exact ⟨rfl, rfl⟩

def fromEnd (n : Int) : Ending := if rightB n = true then .returned (.tuple #[.int .i64 n, .bool true]) else .returned (.tuple #[.int .i64 0, .bool false])

set_option maxHeartbeats 1000000 in
set_option maxRecDepth 100000 in
theorem from_yes (l : List UInt8) (hl : l.length = 8) (b c : Nat) (w : World) (hcells : ∀ i, i < 8 → w.cell? ⟨b, i, none⟩ = some (.int .u8 ((l.getD i 0).toNat : Int))) :
    Calls Tryd.prog 159 #[.slice (some ⟨b, 0, none⟩) 8 c] w fun e w' => e = fromEnd (unrankI (foldB l)) ∧ w = w' := by
  have HL := hid hl
  have HC := hid hcells
  clear hl hcells
  go_enter Tryd.func159, Tryd.ntmps159
  go_wp2
  go_loop [4, 13] (fun vr vi => ∃ (k : Nat) (r : Int), k ≤ 8 ∧ vr = .int .u64 r ∧ vi = .int .i64 k ∧ 0 ≤ r ∧ r = foldB (l.take k)) (fun _ vi => 8 - (intOf vi).toNat)
  case atStart => exact ⟨0, 0, by omega, rfl, rfl, by omega, rfl⟩
  case round =>
    obtain ⟨k, r, hk, rfl, rfl, hr0, hr⟩ := hrel
    by_cases hlt : k < 8
    · have hb : r < 72057594037927936 := by
        have h1 := foldB_lt (l.take k)
        have h2 : (l.take k).length ≤ 7 := by rw [List.length_take]; omega
        have h3 : 256 ^ (l.take k).length ≤ 256 ^ 7 := Nat.pow_le_pow_right (by omega) h2
        rw [hr]
        omega
      have hcell := HC.out k hlt
      have hx := (l.getD k 0).toNat_lt
      obtain ⟨x, hxe⟩ : ∃ x, (l.getD k 0).toNat = x := ⟨_, rfl⟩
      rw [hxe] at hcell hx
      have hor := or_byte hr0 hb x (by omega)
      have HN : Hid (r * 256 + x = ((foldB (l.take (k + 1)) : Nat) : Int)) := hid (by rw [foldB_take l k (by rw [HL.out]; exact hlt), hxe, hr]; omega)
      have hx2 : x ≤ 255 := by omega
      clear hr hxe hx
      go_wp2
      go_round
      case rel => exact ⟨k + 1, r * 256 + x, by omega, rfl, by go_num, by omega, HN.out⟩
      case measure => simp [intOf]; omega
    · obtain rfl : k = 8 := by omega
      have hr8 : r = foldB l := by rw [hr, List.take_of_length_le (by rw [HL.out]; omega)]
      have hb : r < 18446744073709551616 := by
        have h1 := foldB_lt l
        rw [HL.out] at h1
        rw [hr8]
        have : (256 : Nat) ^ 8 = 18446744073709551616 := by decide
        omega
      obtain ⟨n, hn⟩ : ∃ n, unrankI (foldB l) = n := ⟨_, rfl⟩
      have hun : unrankI r = n := by rw [hr8]; exact hn
      have HU : Hid (∀ W, Calls Tryd.prog 176 #[.int .u64 r] W fun e w' => e = .returned (.int .i64 n) ∧ W = w') := fun W => by rw [← hun]; exact unrank_any hr0 hb W
      have hin : inI n := by rw [← hun]; exact unrank_in hr0 hb
      clear hr hr8 hb hr0 hun
      cases hrt : rightB n
      · have HFE : Hid (fromEnd (unrankI (foldB l)) = .returned (.tuple #[.int .i64 0, .bool false])) := by show fromEnd (unrankI (foldB l)) = _; rw [hn]; unfold fromEnd; rw [if_neg (by rw [hrt]; decide)]
        clear hn
        go_wp2_with (first | (go_at_call 176; refine (HU.out _).mono ?_; rintro e w' ⟨rfl, rfl⟩) | (go_at_call 135; refine (right_any (by assumption) _).mono ?_; rintro e w' ⟨rfl, rfl⟩))
        go_ret2
        rw [HFE.out]
        exact ⟨rfl, rfl⟩
      · have HFE : Hid (fromEnd (unrankI (foldB l)) = .returned (.tuple #[.int .i64 n, .bool true])) := by show fromEnd (unrankI (foldB l)) = _; rw [hn]; unfold fromEnd; rw [if_pos hrt]
        clear hn
        go_wp2_with (first | (go_at_call 176; refine (HU.out _).mono ?_; rintro e w' ⟨rfl, rfl⟩) | (go_at_call 135; refine (right_any (by assumption) _).mono ?_; rintro e w' ⟨rfl, rfl⟩))
        go_ret2
        rw [HFE.out]
        exact ⟨rfl, rfl⟩

end Go.Proofs.YtfcnobcpnhfgmaaDoor
