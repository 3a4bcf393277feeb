/- float.From at a slice anywhere in memory. Conditions: the slice holds those bytes. -/
import Derived.Test.YtfcnobcpnhfgmaaDoorFQ
namespace Go.Proofs.YtfcnobcpnhfgmaaDoor
open Go.RowKit

set_option maxHeartbeats 1000000 in
set_option maxRecDepth 100000 in
theorem from_off (l : List UInt8) (hl : l.length = 8) (b off c : Nat) (w : World) (hcells : ∀ i, i < 8 → w.cell? ⟨b, off + i, none⟩ = some (.int .u8 ((l.getD i 0).toNat : Int))) :
    Calls Tryd.prog 159 #[.slice (some ⟨b, off, none⟩) 8 c] w fun e w' => e = fromEnd (unrankI (foldB l)) ∧ w = w' := by
  have HL := hid hl
  have HC := hid hcells
  clear hl hcells
  go_enter Tryd.func159, Tryd.ntmps159
  go_wp2
  go_loop [4, 13] (fun vr vi => ∃ (k : Nat) (r : Int), k ≤ 8 ∧ vr = .int .u64 r ∧ vi = .int .i64 k ∧ 0 ≤ r ∧ r = foldB (l.take k)) (fun _ vi => 8 - (intOf vi).toNat)
  case atStart => exact ⟨0, 0, by omega, rfl, rfl, by omega, rfl⟩
  case round =>
    obtain ⟨k, r, hk, rfl, rfl, hr0, hr⟩ := hrel
    by_cases hlt : k < 8
    · have hb : r < 72057594037927936 := by
        have h1 := foldB_lt (l.take k)
        have h2 : (l.take k).length ≤ 7 := by rw [List.length_take]; omega
        have h3 : 256 ^ (l.take k).length ≤ 256 ^ 7 := Nat.pow_le_pow_right (by omega) h2
        rw [hr]
        omega
      have hcell := HC.out k hlt
      have hx := (l.getD k 0).toNat_lt
      obtain ⟨x, hxe⟩ : ∃ x, (l.getD k 0).toNat = x := ⟨_, rfl⟩
      rw [hxe] at hcell hx
      have hor := or_byte hr0 hb x (by omega)
      have HN : Hid (r * 256 + x = ((foldB (l.take (k + 1)) : Nat) : Int)) := hid (by rw [foldB_take l k (by rw [HL.out]; exact hlt), hxe, hr]; omega)
      have hx2 : x ≤ 255 := by omega
      clear hr hxe hx
      go_wp2
      go_round
      case rel => exact ⟨k + 1, r * 256 + x, by omega, rfl, by go_num, by omega, HN.out⟩
      case measure => simp [intOf]; omega
    · obtain rfl : k = 8 := by omega
      have hr8 : r = foldB l := by rw [hr, List.take_of_length_le (by rw [HL.out]; omega)]
      have hb : r < 18446744073709551616 := by
        have h1 := foldB_lt l
        rw [HL.out] at h1
        rw [hr8]
        have : (256 : Nat) ^ 8 = 18446744073709551616 := by decide
        omega
      obtain ⟨n, hn⟩ : ∃ n, unrankI (foldB l) = n := ⟨_, rfl⟩
      have hun : unrankI r = n := by rw [hr8]; exact hn
      have HU : Hid (∀ W, Calls Tryd.prog 176 #[.int .u64 r] W fun e w' => e = .returned (.int .i64 n) ∧ W = w') := fun W => by rw [← hun]; exact unrank_any hr0 hb W
      have hin : inI n := by rw [← hun]; exact unrank_in hr0 hb
      clear hr hr8 hb hr0 hun
      cases hrt : rightB n
      · have HFE : Hid (fromEnd (unrankI (foldB l)) = .returned (.tuple #[.int .i64 0, .bool false])) := by show fromEnd (unrankI (foldB l)) = _; rw [hn]; unfold fromEnd; rw [if_neg (by rw [hrt]; decide)]
        clear hn
        go_wp2_with (first | (go_at_call 176; refine (HU.out _).mono ?_; rintro e w' ⟨rfl, rfl⟩) | (go_at_call 135; refine (right_any (by assumption) _).mono ?_; rintro e w' ⟨rfl, rfl⟩))
        go_ret2
        rw [HFE.out]
        exact ⟨rfl, rfl⟩
      · have HFE : Hid (fromEnd (unrankI (foldB l)) = .returned (.tuple #[.int .i64 n, .bool true])) := by show fromEnd (unrankI (foldB l)) = _; rw [hn]; unfold fromEnd; rw [if_pos hrt]
        clear hn
        go_wp2_with (first | (go_at_call 176; refine (HU.out _).mono ?_; rintro e w' ⟨rfl, rfl⟩) | (go_at_call 135; refine (right_any (by assumption) _).mono ?_; rintro e w' ⟨rfl, rfl⟩))
        go_ret2
        rw [HFE.out]
        exact ⟨rfl, rfl⟩

end Go.Proofs.YtfcnobcpnhfgmaaDoor
