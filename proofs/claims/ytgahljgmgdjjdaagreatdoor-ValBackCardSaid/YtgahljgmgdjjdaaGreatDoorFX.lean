/- float.Read at every text that no right number is shown as; the document's From at every slice of bytes. Conditions: texts of at most a thousand bytes; the error variables hold errors; the table of math/bits reads as it is laid. -/
import Derived.Test.YtgahljgmgdjjdaaGreatDoorFW
import Derived.Test.YtgahljgmgdjjdaaGreatDoorFU
namespace Go.Proofs.YtgahljgmgdjjdaaGreatDoor
open Go.RowKit

/-- No right number is shown so. -/
def NoneShows (l : List UInt8) : Prop := ∀ n, inI n → rightB n = true → showT n ≠ l

theorem wrap64_in (u : Nat) : inI (wrap64 u) := by unfold inI wrap64; omega

set_option maxHeartbeats 1000000 in
theorem read_no (l : List UInt8) (hl : l.length ≤ 1000) (hno : NoneShows l) (w : World) (he : ErrsIn w) (hc : w.cell? ⟨8, 15, none⟩ = some (.int .u8 4)) :
    Calls Tryz.prog 69 #[.string ⟨l.toArray⟩] w fun e w' => e = .returned (.tuple #[.int .i64 0, .bool false]) ∧ Below w.heap.size w w' := by
  have ht : (⟨l.toArray⟩ : ByteArray).toList = l := mk_toList _
  have HP : Hid (Calls Tryz.prog 85 #[.string ⟨l.toArray⟩] w fun e w' => ((∃ u : Nat, (u < 18446744073709551616 ∧ l ≠ [63]) ∧ e = .returned (.tuple #[.int .u64 u, .bool true])) ∨ (∃ u : Nat, e = .returned (.tuple #[.int .u64 u, .bool false]))) ∧ Below w.heap.size w w') := by
    refine (parse_any l hl w he).mono ?_
    rintro e w' ⟨⟨u, ok, h, hok⟩, hb⟩
    cases ok
    · exact ⟨Or.inr ⟨u, h⟩, hb⟩
    · obtain ⟨h1, h2⟩ := hok rfl
      exact ⟨Or.inl ⟨u, ⟨h1, h2⟩, h⟩, hb⟩
  have HS : Hid (∀ u : Nat, (u < 18446744073709551616 ∧ l ≠ [63]) → ∀ W, Below w.heap.size w W → Calls Tryz.prog 40 #[.int .i64 (wrap64 u)] W fun e w' => ∃ sh : ByteArray, e = .returned (.string sh) ∧ (sh.toList == (⟨l.toArray⟩ : ByteArray).toList) = false ∧ Below w.heap.size w w') := fun u hu W hW => by
    refine (show_carried (wrap64_in u) w W hc hW).mono ?_
    rintro e w' ⟨h, hb⟩
    refine ⟨_, h, ?_, hb⟩
    rw [mk_toList, ht]
    refine beq_eq_false_iff_ne.2 fun hsh => ?_
    cases hr : rightB (wrap64 u)
    · unfold showT at hsh
      rw [hr] at hsh
      exact hu.2 hsh.symm
    · exact hno _ (wrap64_in u) hr hsh
  obtain ⟨s, hs⟩ : ∃ s : ByteArray, (⟨l.toArray⟩ : ByteArray) = s := ⟨_, rfl⟩
  rw [hs] at HP HS ⊢
  clear ht hs he hc hl hno
  go_enter Tryz.func69, Tryz.ntmps69
  go_wp2_with (first | (go_at_call 85; refine HP.out.mono ?_; rintro e w1 ⟨⟨u, hu, rfl⟩ | ⟨u, rfl⟩, hb1⟩) | (go_at_call 40; refine (HS.out _ (by assumption) _ (by assumption)).mono ?_; rintro e w2 ⟨sh, rfl, hne, hb2⟩))
  all_goals go_ret2
  all_goals exact ⟨rfl, by assumption⟩

theorem fold_top (l : List UInt8) (hl : l.length = 8) : (9223372036854775808 ≤ foldB l) ↔ 128 ≤ (l.getD 0 0).toNat := by
  cases l with
  | nil => simp at hl
  | cons x m =>
    have hm : m.length = 7 := by simpa using hl
    have h1 := foldB_lt m
    rw [hm] at h1
    have p7 : (256 : Nat) ^ 7 = 72057594037927936 := by decide
    rw [foldB_cons, hm, p7]
    rw [p7] at h1
    have h2 := x.toNat_lt
    simp only [List.getD_cons_zero]
    omega

set_option maxHeartbeats 400000 in
theorem refFrom_no {a : Option Addr} (n c : Nat) (hn : n ≠ 8) (w : World) :
    Calls Tryz.prog 46 #[.slice a n c] w fun e w' => e = .returned (.tuple #[.int .i64 0, .bool false]) ∧ w = w' := by
  have h8 : ((n : Int) == 8) = false := by simpa using fun h => hn (by omega)
  go_enter Tryz.func46, Tryz.ntmps46
  go_wp2
  go_ret2
  exact ⟨rfl, rfl⟩

theorem from_body (l : List UInt8) (hl : l.length = 8) (E : Ending) (hE : fromEnd (unrankI (foldB l)) = E) : ∀ r : Int, r = foldB l → ∃ n : Int, inI n ∧ E = fromEnd n ∧ 0 ≤ r ∧ r < 18446744073709551616 ∧ ((128 ≤ (l.getD 0 0).toNat ∧ r - 9223372036854775808 = n ∧ 9223372036854775808 ≤ r) ∨ ((l.getD 0 0).toNat < 128 ∧ wrap64 (bits .xor .u64 IntKind.u64.max r) = n ∧ r < 9223372036854775808)) := fun r hr => by
  have h1 := foldB_lt l
  rw [hl] at h1
  have p8 : (256 : Nat) ^ 8 = 18446744073709551616 := by decide
  have hb : r < 18446744073709551616 := by omega
  have h0 : 0 ≤ r := by omega
  have ft := fold_top l hl
  refine ⟨unrankI r, unrank_in h0 hb, by rw [← hE, hr], h0, hb, ?_⟩
  by_cases ht : 9223372036854775808 ≤ r
  · refine Or.inl ⟨ft.1 (by omega), ?_, ht⟩
    unfold unrankI
    rw [if_neg (by omega)]
  · refine Or.inr ⟨by have := mt ft.2; omega, ?_, by omega⟩
    rw [turnR h0 hb]
    unfold wrap64 unrankI
    rw [if_pos (by omega)]
    omega

set_option maxHeartbeats 1000000 in
set_option maxRecDepth 100000 in
theorem refFrom_yes (l : List UInt8) (hl : l.length = 8) (b c : Nat) (w : World) (hcells : ∀ i, i < 8 → w.cell? ⟨b, i, none⟩ = some (.int .u8 ((l.getD i 0).toNat : Int))) :
    Calls Tryz.prog 46 #[.slice (some ⟨b, 0, none⟩) 8 c] w fun e w' => e = fromEnd (unrankI (foldB l)) ∧ w = w' := by
  have HL := hid hl
  have HC := hid hcells
  clear hl hcells
  obtain ⟨E, hE⟩ : ∃ E, fromEnd (unrankI (foldB l)) = E := ⟨_, rfl⟩
  rw [hE]
  have hbody := from_body l HL.out E hE
  have HB := hid hbody
  clear hbody hE
  go_enter Tryz.func46, Tryz.ntmps46
  go_wp2
  go_loop [4, 5] (fun vr vi => ∃ (k : Nat) (r : Int), k ≤ 8 ∧ vr = .int .u64 r ∧ vi = .int .i64 k ∧ 0 ≤ r ∧ r = foldB (l.take k)) (fun _ vi => 8 - (intOf vi).toNat)
  case atStart => exact ⟨0, 0, by omega, rfl, rfl, by omega, rfl⟩
  case round =>
    obtain ⟨k, r, hk, rfl, rfl, hr0, hr⟩ := hrel
    by_cases hlt : k < 8
    · have hb : r < 72057594037927936 := by
        have h1 := foldB_lt (l.take k)
        have h2 : (l.take k).length ≤ 7 := by rw [List.length_take]; omega
        have h3 : 256 ^ (l.take k).length ≤ 256 ^ 7 := Nat.pow_le_pow_right (by omega) h2
        rw [hr]
        omega
      have hcell := HC.out k hlt
      have hx := (l.getD k 0).toNat_lt
      obtain ⟨x, hxe⟩ : ∃ x, (l.getD k 0).toNat = x := ⟨_, rfl⟩
      rw [hxe] at hcell hx
      have hx2 : x ≤ 255 := by omega
      have HN : Hid (r * 256 + x = ((foldB (l.take (k + 1)) : Nat) : Int)) := hid (by rw [foldB_take l k (by rw [HL.out]; exact hlt), hxe, hr]; omega)
      clear hr hxe hx HB
      go_wp2
      go_round
      case rel => exact ⟨k + 1, r * 256 + x, by omega, rfl, by go_num, by omega, HN.out⟩
      case measure => simp [intOf]; omega
    · obtain rfl : k = 8 := by omega
      have hr8 : r = foldB l := by rw [hr, List.take_of_length_le (by rw [HL.out]; omega)]
      obtain ⟨n, hin, hEn, h0, hb, hsel⟩ := HB.out r hr8
      have hcell := HC.out 0 (by omega)
      obtain ⟨x, hxe⟩ : ∃ x, (l.getD 0 0).toNat = x := ⟨_, rfl⟩
      rw [hxe] at hcell hsel
      clear hr hr8 HB hxe hr0 hk
      have HRt : Hid (∀ W, Calls Tryz.prog 31 #[.int .i64 n] W fun e w' => e = .returned (.bool (rightB n)) ∧ W = w') := fun W => refRight_any n W
      clear hin
      rcases hsel with ⟨hx, hw, hge⟩ | ⟨hx, hw, hge⟩ <;> cases hrt : rightB n
      all_goals (rw [hrt] at HRt)
      · have HFE : Hid (E = .returned (.tuple #[.int .i64 0, .bool false])) := hid (by rw [hEn]; unfold fromEnd; rw [if_neg (by rw [hrt]; decide)])
        clear hEn hrt
        go_wp2_with (go_at_call 31; ((with_reducible refine (HRt.out _).mono ?_); rintro e w' ⟨rfl, rfl⟩))
        go_ret2
        rw [HFE.out]
        exact ⟨rfl, rfl⟩
      · have HFE : Hid (E = .returned (.tuple #[.int .i64 n, .bool true])) := hid (by rw [hEn]; unfold fromEnd; rw [if_pos hrt])
        clear hEn hrt
        go_wp2_with (go_at_call 31; ((with_reducible refine (HRt.out _).mono ?_); rintro e w' ⟨rfl, rfl⟩))
        go_ret2
        rw [HFE.out]
        exact ⟨rfl, rfl⟩
      · have HFE : Hid (E = .returned (.tuple #[.int .i64 0, .bool false])) := hid (by rw [hEn]; unfold fromEnd; rw [if_neg (by rw [hrt]; decide)])
        clear hEn hrt
        go_wp2_with (go_at_call 31; ((with_reducible refine (HRt.out _).mono ?_); rintro e w' ⟨rfl, rfl⟩))
        go_ret2
        rw [HFE.out]
        exact ⟨rfl, rfl⟩
      · have HFE : Hid (E = .returned (.tuple #[.int .i64 n, .bool true])) := hid (by rw [hEn]; unfold fromEnd; rw [if_pos hrt])
        clear hEn hrt
        go_wp2_with (go_at_call 31; ((with_reducible refine (HRt.out _).mono ?_); rintro e w' ⟨rfl, rfl⟩))
        go_ret2
        rw [HFE.out]
        exact ⟨rfl, rfl⟩

end Go.Proofs.YtgahljgmgdjjdaaGreatDoor
