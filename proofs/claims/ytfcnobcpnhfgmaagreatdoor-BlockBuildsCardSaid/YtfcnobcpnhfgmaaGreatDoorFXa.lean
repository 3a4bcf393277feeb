/- The document's From at every slice of bytes. Conditions: the slice holds those bytes. -/
import Derived.Test.YtfcnobcpnhfgmaaGreatDoorQF
import Derived.Test.YtfcnobcpnhfgmaaGreatDoorQ1
namespace Go.Proofs.YtfcnobcpnhfgmaaGreatDoor
open Go.RowKit

theorem fold_top (l : List UInt8) (hl : l.length = 8) : (9223372036854775808 ≤ foldB l) ↔ 128 ≤ (l.getD 0 0).toNat := by
  cases l with
  | nil => simp at hl
  | cons x m =>
    have hm : m.length = 7 := by simpa using hl
    have h1 := foldB_lt m
    rw [hm] at h1
    have p7 : (256 : Nat) ^ 7 = 72057594037927936 := by decide
    rw [foldB_cons, hm, p7]
    rw [p7] at h1
    have h2 := x.toNat_lt
    simp only [List.getD_cons_zero]
    omega

set_option maxHeartbeats 400000 in
theorem refFrom_no {a : Option Addr} (n c : Nat) (hn : n ≠ 8) (w : World) :
    Calls Tryz.prog 154 #[.slice a n c] w fun e w' => e = .returned (.tuple #[.int .i64 0, .bool false]) ∧ w = w' := by
  have h8 : ((n : Int) == 8) = false := by simpa using fun h => hn (by omega)
  go_enter Tryz.func154, Tryz.ntmps154
  go_wp2
  go_ret2
  exact ⟨rfl, rfl⟩

theorem from_body (l : List UInt8) (hl : l.length = 8) (E : Ending) (hE : fromEnd (unrankI (foldB l)) = E) : ∀ r : Int, r = foldB l → ∃ n : Int, inI n ∧ E = fromEnd n ∧ 0 ≤ r ∧ r < 18446744073709551616 ∧ ((128 ≤ (l.getD 0 0).toNat ∧ r - 9223372036854775808 = n ∧ 9223372036854775808 ≤ r) ∨ ((l.getD 0 0).toNat < 128 ∧ wrap64 (bits .xor .u64 IntKind.u64.max r) = n ∧ r < 9223372036854775808)) := fun r hr => by
  have h1 := foldB_lt l
  rw [hl] at h1
  have p8 : (256 : Nat) ^ 8 = 18446744073709551616 := by decide
  have hb : r < 18446744073709551616 := by omega
  have h0 : 0 ≤ r := by omega
  have ft := fold_top l hl
  refine ⟨unrankI r, unrank_in h0 hb, by rw [← hE, hr], h0, hb, ?_⟩
  by_cases ht : 9223372036854775808 ≤ r
  · refine Or.inl ⟨ft.1 (by omega), ?_, ht⟩
    unfold unrankI
    rw [if_neg (by omega)]
  · refine Or.inr ⟨by have := mt ft.2; omega, ?_, by omega⟩
    rw [turnR h0 hb]
    unfold wrap64 unrankI
    rw [if_pos (by omega)]
    omega

set_option maxHeartbeats 1000000 in
set_option maxRecDepth 100000 in
theorem refFrom_yes (l : List UInt8) (hl : l.length = 8) (b c : Nat) (w : World) (hcells : ∀ i, i < 8 → w.cell? ⟨b, i, none⟩ = some (.int .u8 ((l.getD i 0).toNat : Int))) :
    Calls Tryz.prog 154 #[.slice (some ⟨b, 0, none⟩) 8 c] w fun e w' => e = fromEnd (unrankI (foldB l)) ∧ w = w' := by
  have HL := hid hl
  have HC := hid hcells
  clear hl hcells
  obtain ⟨E, hE⟩ : ∃ E, fromEnd (unrankI (foldB l)) = E := ⟨_, rfl⟩
  rw [hE]
  have hbody := from_body l HL.out E hE
  have HB := hid hbody
  clear hbody hE
  go_enter Tryz.func154, Tryz.ntmps154
  go_wp2
  go_loop [4, 5] (fun vr vi => ∃ (k : Nat) (r : Int), k ≤ 8 ∧ vr = .int .u64 r ∧ vi = .int .i64 k ∧ 0 ≤ r ∧ r = foldB (l.take k)) (fun _ vi => 8 - (intOf vi).toNat)
  case atStart => exact ⟨0, 0, by omega, rfl, rfl, by omega, rfl⟩
  case round =>
    obtain ⟨k, r, hk, rfl, rfl, hr0, hr⟩ := hrel
    by_cases hlt : k < 8
    · have hb : r < 72057594037927936 := by
        have h1 := foldB_lt (l.take k)
        have h2 : (l.take k).length ≤ 7 := by rw [List.length_take]; omega
        have h3 : 256 ^ (l.take k).length ≤ 256 ^ 7 := Nat.pow_le_pow_right (by omega) h2
        rw [hr]
        omega
      have hcell := HC.out k hlt
      have hx := (l.getD k 0).toNat_lt
      obtain ⟨x, hxe⟩ : ∃ x, (l.getD k 0).toNat = x := ⟨_, rfl⟩
      rw [hxe] at hcell hx
      have hx2 : x ≤ 255 := by omega
      have HN : Hid (r * 256 + x = ((foldB (l.take (k + 1)) : Nat) : Int)) := hid (by rw [foldB_take l k (by rw [HL.out]; exact hlt), hxe, hr]; omega)
      clear hr hxe hx HB
      go_wp2
      go_round
      case rel => exact ⟨k + 1, r * 256 + x, by omega, rfl, by go_num, by omega, HN.out⟩
      case measure => simp [intOf]; omega
    · obtain rfl : k = 8 := by omega
      have hr8 : r = foldB l := by rw [hr, List.take_of_length_le (by rw [HL.out]; omega)]
      obtain ⟨n, hin, hEn, h0, hb, hsel⟩ := HB.out r hr8
      have hcell := HC.out 0 (by omega)
      obtain ⟨x, hxe⟩ : ∃ x, (l.getD 0 0).toNat = x := ⟨_, rfl⟩
      rw [hxe] at hcell hsel
      clear hr hr8 HB hxe hr0 hk
      have HRt : Hid (∀ W, Calls Tryz.prog 146 #[.int .i64 n] W fun e w' => e = .returned (.bool (rightB n)) ∧ W = w') := fun W => refRight_any n W
      clear hin
      rcases hsel with ⟨hx, hw, hge⟩ | ⟨hx, hw, hge⟩ <;> cases hrt : rightB n
      all_goals (rw [hrt] at HRt)
      · have HFE : Hid (E = .returned (.tuple #[.int .i64 0, .bool false])) := hid (by rw [hEn]; unfold fromEnd; rw [if_neg (by rw [hrt]; decide)])
        clear hEn hrt
        go_wp2_with (go_at_call 146; ((with_reducible refine (HRt.out _).mono ?_); rintro e w' ⟨rfl, rfl⟩))
        go_ret2
        rw [HFE.out]
        exact ⟨rfl, rfl⟩
      · have HFE : Hid (E = .returned (.tuple #[.int .i64 n, .bool true])) := hid (by rw [hEn]; unfold fromEnd; rw [if_pos hrt])
        clear hEn hrt
        go_wp2_with (go_at_call 146; ((with_reducible refine (HRt.out _).mono ?_); rintro e w' ⟨rfl, rfl⟩))
        go_ret2
        rw [HFE.out]
        exact ⟨rfl, rfl⟩
      · have HFE : Hid (E = .returned (.tuple #[.int .i64 0, .bool false])) := hid (by rw [hEn]; unfold fromEnd; rw [if_neg (by rw [hrt]; decide)])
        clear hEn hrt
        go_wp2_with (go_at_call 146; ((with_reducible refine (HRt.out _).mono ?_); rintro e w' ⟨rfl, rfl⟩))
        go_ret2
        rw [HFE.out]
        exact ⟨rfl, rfl⟩
      · have HFE : Hid (E = .returned (.tuple #[.int .i64 n, .bool true])) := hid (by rw [hEn]; unfold fromEnd; rw [if_pos hrt])
        clear hEn hrt
        go_wp2_with (go_at_call 146; ((with_reducible refine (HRt.out _).mono ?_); rintro e w' ⟨rfl, rfl⟩))
        go_ret2
        rw [HFE.out]
        exact ⟨rfl, rfl⟩

end Go.Proofs.YtfcnobcpnhfgmaaGreatDoor
