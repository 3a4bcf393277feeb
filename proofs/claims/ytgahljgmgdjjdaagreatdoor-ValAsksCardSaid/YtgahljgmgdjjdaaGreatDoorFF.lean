/- float.parse and float.Read at each text that Show tells of a right number: that number, and true. Conditions: the table of math/bits reads as it is laid. -/
import Derived.Test.YtgahljgmgdjjdaaGreatDoorFE
import Derived.Deep.QuietTactic
import Derived.BigQuiet
namespace Go.Proofs.YtgahljgmgdjjdaaGreatDoor
open Go.RowKit

set_option maxHeartbeats 400000 in
theorem parseUint_ok (s : ByteArray) (hs : s.size ≤ 9223372036854775807) (hne : s.toList.isEmpty = false) (n : Nat) (hn : hexGo s.data.toList 0 = .ok n) (w : World) :
    Calls Tryz.prog 101 #[.string s, .int .i64 16, .int .i64 64] w fun e w' => e = .returned (.tuple #[.int .u64 n, .nilIface]) ∧ Below w.heap.size w w' := by
  have hp := parseIn s hs hne w
  rw [hn] at hp
  have HP : Hid (Calls Tryz.prog 105 #[.string s, .int .i64 16, .int .i64 64] w fun e w' => e = .returned (.tuple #[.int .u64 n, .nilIface]) ∧ Below w.heap.size w w') := hp
  clear hp hn hne hs
  go_enter Tryz.func101, Tryz.ntmps101
  go_wp2_with (go_at_call 105; refine HP.out.mono ?_; rintro e w' ⟨rfl, hb⟩)
  go_ret2
  exact ⟨rfl, hb⟩

theorem mk_toList (l : List UInt8) : (⟨l.toArray⟩ : ByteArray).toList = l := by rw [ByteArray.toList_eq]

/-- The texts with names. -/
def named : List (List UInt8) := [nanT, infT, minfT, zeroT, mzeroT]

set_option maxHeartbeats 1000000 in
theorem parse_hex (l : List UInt8) (hl : l.length ≤ 1000) (h0 : l ≠ []) (n : Nat) (hn : hexGo l 0 = .ok n) (w : World) :
    Calls Tryz.prog 85 #[.string ⟨(120 :: l).toArray⟩] w fun e w' => e = .returned (.tuple #[.int .u64 n, .bool true]) ∧ Below w.heap.size w w' := by
  have ht : (⟨(120 :: l).toArray⟩ : ByteArray).toList = 120 :: l := mk_toList _
  obtain ⟨s, hs⟩ : ∃ s : ByteArray, (⟨(120 :: l).toArray⟩ : ByteArray) = s := ⟨_, rfl⟩
  rw [hs] at ht ⊢
  have hsz : s.size = l.length + 1 := by rw [← hs]; simp [ByteArray.size]
  have hd : (s.extract 1 s.size).data.toList = l := by
    rw [Lib.extract_data, ← hs]; simp [ByteArray.size]
  have hp1 : (⟨#[120]⟩ : ByteArray).size = 1 := rfl
  have hp2 : (⟨#[120]⟩ : ByteArray).toList = [120] := by decide +kernel
  have HCut : Hid (Calls Tryz.prog 86 #[.string s, .string ⟨#[120]⟩] w fun e w' => e = .returned (.tuple #[.string (s.extract 1 s.size), .bool true]) ∧ w = w') := by
    have := cutPrefix_yes s ⟨#[120]⟩ (by unfold maxLen; omega) (by decide) (by rw [hp1]; omega) (by rw [hp2, hp1, ByteArray.toList_eq, Lib.extract_data, ← ByteArray.toList_eq, ht]; rfl) w
    rwa [hp1] at this
  have HP : Hid (Calls Tryz.prog 101 #[.string (s.extract 1 s.size), .int .i64 16, .int .i64 64] w fun e w' => e = .returned (.tuple #[.int .u64 n, .nilIface]) ∧ Below w.heap.size w w') := by
    refine parseUint_ok _ ?_ ?_ n (by rw [hd]; exact hn) w
    · rw [Lib.size_eq, hd]; omega
    · rw [ByteArray.toList_eq, hd]; cases l with
      | nil => exact absurd rfl h0
      | cons a b => rfl
  have n1 : (s.toList == [110, 97, 110]) = false := by rw [ht]; rfl
  have n2 : (s.toList == [105, 110, 102]) = false := by rw [ht]; rfl
  have n3 : (s.toList == [45, 105, 110, 102]) = false := by rw [ht]; rfl
  have n4 : (s.toList == [48]) = false := by rw [ht]; rfl
  have n5 : (s.toList == [45, 48]) = false := by rw [ht]; rfl
  clear ht hs hsz hd hp1 hp2 hn h0 hl
  go_enter Tryz.func85, Tryz.ntmps85
  go_wp2_with (first | (go_at_call 86; refine HCut.out.mono ?_; rintro e w' ⟨rfl, rfl⟩) | (go_at_call 101; refine HP.out.mono ?_; rintro e w' ⟨rfl, hb⟩))
  go_quiet (fail)
  go_wp2
  go_ret2
  exact ⟨rfl, below_drewN hb _⟩

set_option maxHeartbeats 1000000 in
theorem parse_nan (w : World) : Calls Tryz.prog 85 #[.string ⟨nanT.toArray⟩] w fun e w' => e = .returned (.tuple #[.int .u64 9221120237041090560, .bool true]) ∧ w = w' := by
  have n1 : ((⟨nanT.toArray⟩ : ByteArray).toList == [110, 97, 110]) = true := by rw [mk_toList]; rfl
  go_enter Tryz.func85, Tryz.ntmps85
  go_wp2
  go_ret2
  exact ⟨rfl, rfl⟩
set_option maxHeartbeats 1000000 in
theorem parse_inf (w : World) : Calls Tryz.prog 85 #[.string ⟨infT.toArray⟩] w fun e w' => e = .returned (.tuple #[.int .u64 9218868437227405312, .bool true]) ∧ w = w' := by
  have n1 : ((⟨infT.toArray⟩ : ByteArray).toList == [110, 97, 110]) = false := by rw [mk_toList]; rfl
  have n2 : ((⟨infT.toArray⟩ : ByteArray).toList == [105, 110, 102]) = true := by rw [mk_toList]; rfl
  go_enter Tryz.func85, Tryz.ntmps85
  go_wp2
  go_ret2
  exact ⟨rfl, rfl⟩
set_option maxHeartbeats 1000000 in
theorem parse_minf (w : World) : Calls Tryz.prog 85 #[.string ⟨minfT.toArray⟩] w fun e w' => e = .returned (.tuple #[.int .u64 18442240474082181120, .bool true]) ∧ w = w' := by
  have n1 : ((⟨minfT.toArray⟩ : ByteArray).toList == [110, 97, 110]) = false := by rw [mk_toList]; rfl
  have n2 : ((⟨minfT.toArray⟩ : ByteArray).toList == [105, 110, 102]) = false := by rw [mk_toList]; rfl
  have n3 : ((⟨minfT.toArray⟩ : ByteArray).toList == [45, 105, 110, 102]) = true := by rw [mk_toList]; rfl
  go_enter Tryz.func85, Tryz.ntmps85
  go_wp2
  go_ret2
  exact ⟨rfl, rfl⟩
set_option maxHeartbeats 1000000 in
theorem parse_zero (w : World) : Calls Tryz.prog 85 #[.string ⟨zeroT.toArray⟩] w fun e w' => e = .returned (.tuple #[.int .u64 0, .bool true]) ∧ w = w' := by
  have n1 : ((⟨zeroT.toArray⟩ : ByteArray).toList == [110, 97, 110]) = false := by rw [mk_toList]; rfl
  have n2 : ((⟨zeroT.toArray⟩ : ByteArray).toList == [105, 110, 102]) = false := by rw [mk_toList]; rfl
  have n3 : ((⟨zeroT.toArray⟩ : ByteArray).toList == [45, 105, 110, 102]) = false := by rw [mk_toList]; rfl
  have n4 : ((⟨zeroT.toArray⟩ : ByteArray).toList == [48]) = true := by rw [mk_toList]; rfl
  go_enter Tryz.func85, Tryz.ntmps85
  go_wp2
  go_ret2
  exact ⟨rfl, rfl⟩
set_option maxHeartbeats 1000000 in
theorem parse_mzero (w : World) : Calls Tryz.prog 85 #[.string ⟨mzeroT.toArray⟩] w fun e w' => e = .returned (.tuple #[.int .u64 9223372036854775808, .bool true]) ∧ w = w' := by
  have n1 : ((⟨mzeroT.toArray⟩ : ByteArray).toList == [110, 97, 110]) = false := by rw [mk_toList]; rfl
  have n2 : ((⟨mzeroT.toArray⟩ : ByteArray).toList == [105, 110, 102]) = false := by rw [mk_toList]; rfl
  have n3 : ((⟨mzeroT.toArray⟩ : ByteArray).toList == [45, 105, 110, 102]) = false := by rw [mk_toList]; rfl
  have n4 : ((⟨mzeroT.toArray⟩ : ByteArray).toList == [48]) = false := by rw [mk_toList]; rfl
  have n5 : ((⟨mzeroT.toArray⟩ : ByteArray).toList == [45, 48]) = true := by rw [mk_toList]; rfl
  go_enter Tryz.func85, Tryz.ntmps85
  go_wp2
  go_ret2
  exact ⟨rfl, rfl⟩

/-- parse at the text of a word. -/
theorem parse_text (x : Nat) (hx : x < 18446744073709551616) (w : World) :
    Calls Tryz.prog 85 #[.string ⟨(textW x).toArray⟩] w fun e w' => e = .returned (.tuple #[.int .u64 x, .bool true]) ∧ Below w.heap.size w w' := by
  unfold textW
  by_cases h1 : x = 9221120237041090560
  · rw [if_pos h1, h1]; exact (parse_nan w).mono (eq_below rfl)
  rw [if_neg h1]
  by_cases h2 : x = 9218868437227405312
  · rw [if_pos h2, h2]; exact (parse_inf w).mono (eq_below rfl)
  rw [if_neg h2]
  by_cases h3 : x = 18442240474082181120
  · rw [if_pos h3, h3]; exact (parse_minf w).mono (eq_below rfl)
  rw [if_neg h3]
  by_cases h4 : x = 0
  · rw [if_pos h4, h4]; exact (parse_zero w).mono (eq_below rfl)
  rw [if_neg h4]
  by_cases h5 : x = 9223372036854775808
  · rw [if_pos h5, h5]; exact (parse_mzero w).mono (eq_below rfl)
  rw [if_neg h5]
  refine parse_hex (fixW 16 x) (by rw [fixW_len]; omega) ?_ x (hexGo_fix 16 x hx (Nat.le_refl _)) w
  intro h
  have := congrArg List.length h
  rw [fixW_len] at this
  exact absurd this (by decide)

set_option maxHeartbeats 1000000 in
/-- float.Read at what Show tells of a right number. -/
theorem read_text {n : Int} (h : inI n) (hr : rightB n = true) (w : World) (hc : w.cell? ⟨8, 15, none⟩ = some (.int .u8 4)) :
    Calls Tryz.prog 69 #[.string ⟨(textW (wd n)).toArray⟩] w fun e w' => e = .returned (.tuple #[.int .i64 n, .bool true]) ∧ Below w.heap.size w w' := by
  have h6 := cell_lt hc
  have HP := hid (parse_text (wd n) (wd_lt n) w)
  have HS : Hid (∀ W, Below w.heap.size w W → Calls Tryz.prog 40 #[.int .i64 n] W fun e w' => e = .returned (.string ⟨(textW (wd n)).toArray⟩) ∧ Below W.heap.size W w') := fun W hW => by
    have := show_any h W (by rw [hW.cell h6]; exact hc)
    unfold showT at this
    rwa [if_pos hr] at this
  have hw : wrap64 (wd n : Int) = n := wrap64_wd h
  obtain ⟨s, hs⟩ : ∃ s : ByteArray, (⟨(textW (wd n)).toArray⟩ : ByteArray) = s := ⟨_, rfl⟩
  rw [hs] at HP HS ⊢
  clear hs hr h hc h6
  go_enter Tryz.func69, Tryz.ntmps69
  go_wp2_with (first | (go_at_call 85; refine HP.out.mono ?_; rintro e w' ⟨rfl, hb⟩) | (go_at_call 40; refine (HS.out _ (by assumption)).mono ?_; rintro e w' ⟨rfl, hb2⟩))
  go_ret2
  exact ⟨congrArg (fun k => Ending.returned (Value.tuple #[Value.int .i64 k, .bool true])) hw, hb.trans (hb2.mono hb.size)⟩

end Go.Proofs.YtgahljgmgdjjdaaGreatDoor
