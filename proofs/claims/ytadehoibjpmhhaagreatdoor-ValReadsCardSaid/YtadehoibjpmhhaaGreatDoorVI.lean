/- val.Show for every value: its text. Conditions: the listed variables of the library read as they are laid; the number is of 64 bits. -/
import Derived.Test.YtadehoibjpmhhaaGreatDoorVH
import Derived.Lib.AppendIntMem
namespace Go.Proofs.YtadehoibjpmhhaaGreatDoor
open Go.RowKit

/-- A value's text. -/
def vShow (k n : Int) (s : List UInt8) : List UInt8 :=
  if vRight k n s = true then (if k = 1 then Lib.itoa n else if k = 4 then (if n = 1 then [116, 114, 117, 101] else [102, 97, 108, 115, 101]) else if k = 5 then 102 :: showT n else if k = 2 then 98 :: 34 :: (quo s ++ [34]) else 116 :: 34 :: (quo s ++ [34]))
  else [63]

theorem showT_len (n : Int) : (showT n).length ≤ 17 := by
  unfold showT textW
  repeat' split
  all_goals simp [nanT, infT, minfT, zeroT, mzeroT, fixW_len]
theorem cat_one (c : UInt8) (l : List UInt8) : (⟨#[c]⟩ : ByteArray) ++ ⟨l.toArray⟩ = ⟨(c :: l).toArray⟩ := by
  apply ByteArray.ext
  simp

theorem itoa_any {n : Int} (hn : inI n) (w : World) (hL : LaidIn w) :
    Calls Tryz.prog 25 #[.int .i64 n] w fun e w' => e = .returned (.string ⟨(Lib.itoa n).toArray⟩) ∧ Below w.heap.size w w' := by
  unfold inI at hn
  refine (Tryz.strconv_Itoa n (by omega) (by omega) w hL.pow).mono ?_
  rintro e w' ⟨he, h⟩
  obtain ⟨k, os, rfl⟩ := h
  exact ⟨he, Lib.below_grow _ w (Nat.le_refl _) k os⟩

set_option maxHeartbeats 1000000 in
theorem vshow_1 {n : Int} (hn : inI n) (s : ByteArray) (hs : s.size ≤ 9223372036854775807) (hr : vRight 1 n s.data.toList = true) (w : World) (hL : LaidIn w) :
    Calls Tryz.prog 11 #[.agg #[.int .i64 1, .int .i64 n, .string s]] w fun e w' => e = .returned (.string ⟨(Lib.itoa n).toArray⟩) ∧ Below w.heap.size w w' := by
  have HV := hid (vright_in 1 hn s w hs hL)
  have HI : Hid (∀ W, Below w.heap.size w W → Calls Tryz.prog 25 #[.int .i64 n] W fun e w' => e = .returned (.string ⟨(Lib.itoa n).toArray⟩) ∧ Below W.heap.size W w') := fun W hW => itoa_any hn W (hL.below hW)
  rw [hr] at HV
  clear hr hn hL hs
  have HB := hid (below_new w)
  go_enter Tryz.func11, Tryz.ntmps11
  go_wp2_with (first | (go_at_call 12; refine (HV.out _ (HB.out _)).mono ?_; rintro e w1 ⟨rfl, hb1, hb2⟩; obtain ⟨hc, hf⟩ := bcell hb2; have hz : w.heap.size < w1.heap.size := (by have := hb2.size; simp at this; omega)) | (go_at_call 25; refine (HI.out _ (by assumption)).mono ?_; rintro e w2 ⟨rfl, hb3⟩))
  go_ret
  exact ⟨rfl, hb1.trans (hb3.mono hb1.size)⟩

set_option maxHeartbeats 1000000 in
theorem vshow_2 {n : Int} (hn : inI n) (s : ByteArray) (hs : s.size ≤ 9223372036854775807) (hr : vRight 2 n s.data.toList = true) (w : World) (hL : LaidIn w) :
    Calls Tryz.prog 11 #[.agg #[.int .i64 2, .int .i64 n, .string s]] w fun e w' => e = .returned (.string ⟨(98 :: 34 :: (quo s.data.toList ++ [34])).toArray⟩) ∧ Below w.heap.size w w' := by
  have HV := hid (vright_in 2 hn s w hs hL)
  have hl : s.size ≤ 1000 := by
    have h1 := right_len hr
    have h2 : s.data.toList.length = s.size := rfl
    omega
  have HQ : Hid (∀ W : World, Calls Tryz.prog 28 #[.string s] W fun e w' => e = .returned (.string ⟨(34 :: (quo s.data.toList ++ [34])).toArray⟩) ∧ Below W.heap.size W w') := fun W => quote_any s hl W
  have HC := hid (cat_one 98 (34 :: (quo s.data.toList ++ [34])))
  have hq : ¬ 9223372036854775807 < 1 + (⟨(34 :: (quo s.data.toList ++ [34])).toArray⟩ : ByteArray).size := by
    rw [mk_size]
    have h1 := quo_len s.data.toList
    have h2 : s.data.toList.length = s.size := rfl
    simp only [List.length_cons, List.length_append, List.length_nil]
    omega
  generalize (⟨(34 :: (quo s.data.toList ++ [34])).toArray⟩ : ByteArray) = q at *
  clear hl
  rw [hr] at HV
  clear hr hn hL hs
  have HB := hid (below_new w)
  go_enter Tryz.func11, Tryz.ntmps11
  go_wp2_with (first | (go_at_call 12; refine (HV.out _ (HB.out _)).mono ?_; rintro e w1 ⟨rfl, hb1, hb2⟩; obtain ⟨hc, hf⟩ := bcell hb2; have hz : w.heap.size < w1.heap.size := (by have := hb2.size; simp at this; omega)) | (go_at_call 28; refine (HQ.out _).mono ?_; rintro e w2 ⟨rfl, hb3⟩))
  go_ret
  exact ⟨congrArg (fun x => Ending.returned (.string x)) HC.out, hb1.trans (hb3.mono hb1.size)⟩

set_option maxHeartbeats 1000000 in
theorem vshow_3 {n : Int} (hn : inI n) (s : ByteArray) (hs : s.size ≤ 9223372036854775807) (hr : vRight 3 n s.data.toList = true) (w : World) (hL : LaidIn w) :
    Calls Tryz.prog 11 #[.agg #[.int .i64 3, .int .i64 n, .string s]] w fun e w' => e = .returned (.string ⟨(116 :: 34 :: (quo s.data.toList ++ [34])).toArray⟩) ∧ Below w.heap.size w w' := by
  have HV := hid (vright_in 3 hn s w hs hL)
  have hl : s.size ≤ 1000 := by
    have h1 := right_len hr
    have h2 : s.data.toList.length = s.size := rfl
    omega
  have HQ : Hid (∀ W : World, Calls Tryz.prog 28 #[.string s] W fun e w' => e = .returned (.string ⟨(34 :: (quo s.data.toList ++ [34])).toArray⟩) ∧ Below W.heap.size W w') := fun W => quote_any s hl W
  have HC := hid (cat_one 116 (34 :: (quo s.data.toList ++ [34])))
  have hq : ¬ 9223372036854775807 < 1 + (⟨(34 :: (quo s.data.toList ++ [34])).toArray⟩ : ByteArray).size := by
    rw [mk_size]
    have h1 := quo_len s.data.toList
    have h2 : s.data.toList.length = s.size := rfl
    simp only [List.length_cons, List.length_append, List.length_nil]
    omega
  generalize (⟨(34 :: (quo s.data.toList ++ [34])).toArray⟩ : ByteArray) = q at *
  clear hl
  rw [hr] at HV
  clear hr hn hL hs
  have HB := hid (below_new w)
  go_enter Tryz.func11, Tryz.ntmps11
  go_wp2_with (first | (go_at_call 12; refine (HV.out _ (HB.out _)).mono ?_; rintro e w1 ⟨rfl, hb1, hb2⟩; obtain ⟨hc, hf⟩ := bcell hb2; have hz : w.heap.size < w1.heap.size := (by have := hb2.size; simp at this; omega)) | (go_at_call 28; refine (HQ.out _).mono ?_; rintro e w2 ⟨rfl, hb3⟩))
  go_ret
  exact ⟨congrArg (fun x => Ending.returned (.string x)) HC.out, hb1.trans (hb3.mono hb1.size)⟩

set_option maxHeartbeats 1000000 in
theorem vshow_4 {n : Int} (hn : inI n) (s : ByteArray) (hs : s.size ≤ 9223372036854775807) (hr : vRight 4 n s.data.toList = true) (w : World) (hL : LaidIn w) :
    Calls Tryz.prog 11 #[.agg #[.int .i64 4, .int .i64 n, .string s]] w fun e w' => e = .returned (.string ⟨(if n = 1 then [116, 114, 117, 101] else [102, 97, 108, 115, 101]).toArray⟩) ∧ Below w.heap.size w w' := by
  have HV := hid (vright_in 4 hn s w hs hL)
  have HF : Hid (∀ (b : Bool) W, Calls Tryz.prog 26 #[.bool b] W fun e w' => e = .returned (.string ⟨(Lib.formatBool b).toArray⟩) ∧ W = w') := fun b W => (Tryz.strconv_FormatBool b W).mono fun _ _ ⟨he, hw⟩ => ⟨he, hw.symm⟩
  have FT : Hid (Lib.formatBool true = [116, 114, 117, 101]) := by show _ = _; decide +kernel
  have FF : Hid (Lib.formatBool false = [102, 97, 108, 115, 101]) := by show _ = _; decide +kernel
  rw [hr] at HV
  clear hr hn hL hs
  have HB := hid (below_new w)
  go_enter Tryz.func11, Tryz.ntmps11
  go_wp2_with (first | (go_at_call 12; refine (HV.out _ (HB.out _)).mono ?_; rintro e w1 ⟨rfl, hb1, hb2⟩; obtain ⟨hc, hf⟩ := bcell hb2; have hz : w.heap.size < w1.heap.size := (by have := hb2.size; simp at this; omega)) | (go_at_call 26; refine (HF.out _ _).mono ?_; rintro e w2 ⟨rfl, rfl⟩))
  all_goals go_ret
  · exact ⟨congrArg (fun x => Ending.returned (.string ⟨List.toArray x⟩)) FT.out, hb1⟩
  · have hn1 : ¬ n = 1 := by assumption
    have e : (n == 1) = false := by simpa using hn1
    rw [← e] at FF
    exact ⟨congrArg (fun x => Ending.returned (.string ⟨List.toArray x⟩)) FF.out, hb1⟩

set_option maxHeartbeats 1000000 in
theorem vshow_5 {n : Int} (hn : inI n) (s : ByteArray) (hs : s.size ≤ 9223372036854775807) (hr : vRight 5 n s.data.toList = true) (w : World) (hL : LaidIn w) :
    Calls Tryz.prog 11 #[.agg #[.int .i64 5, .int .i64 n, .string s]] w fun e w' => e = .returned (.string ⟨(102 :: showT n).toArray⟩) ∧ Below w.heap.size w w' := by
  have HV := hid (vright_in 5 hn s w hs hL)
  have HF : Hid (∀ W, Below w.heap.size w W → Calls Tryz.prog 27 #[.int .i64 n] W fun e w' => e = .returned (.string ⟨(showT n).toArray⟩) ∧ Below w.heap.size w w') := fun W hW => show_carried hn w W hL.tz hW
  have HC := hid (cat_one 102 (showT n))
  have hq : ¬ 9223372036854775807 < 1 + (⟨(showT n).toArray⟩ : ByteArray).size := by
    rw [mk_size]
    have := showT_len n
    omega
  generalize (⟨(showT n).toArray⟩ : ByteArray) = q at *
  rw [hr] at HV
  clear hr hn hL hs
  have HB := hid (below_new w)
  go_enter Tryz.func11, Tryz.ntmps11
  go_wp2_with (first | (go_at_call 12; refine (HV.out _ (HB.out _)).mono ?_; rintro e w1 ⟨rfl, hb1, hb2⟩; obtain ⟨hc, hf⟩ := bcell hb2; have hz : w.heap.size < w1.heap.size := (by have := hb2.size; simp at this; omega)) | (go_at_call 27; refine (HF.out _ (by assumption)).mono ?_; rintro e w2 ⟨rfl, hb3⟩))
  go_ret
  exact ⟨congrArg (fun x => Ending.returned (.string x)) HC.out, hb3⟩

set_option maxHeartbeats 1000000 in
theorem vshow_no (k : Int) {n : Int} (hn : inI n) (s : ByteArray) (hs : s.size ≤ 9223372036854775807) (hr : vRight k n s.data.toList = false) (w : World) (hL : LaidIn w) :
    Calls Tryz.prog 11 #[.agg #[.int .i64 k, .int .i64 n, .string s]] w fun e w' => e = .returned (.string ⟨#[63]⟩) ∧ Below w.heap.size w w' := by
  have HV := hid (vright_in k hn s w hs hL)
  rw [hr] at HV
  clear hr hn hL hs
  have HB := hid (below_new w)
  go_enter Tryz.func11, Tryz.ntmps11
  go_wp2_with (first | (go_at_call 12; refine (HV.out _ (HB.out _)).mono ?_; rintro e w1 ⟨rfl, hb1, hb2⟩; obtain ⟨hc, hf⟩ := bcell hb2; have hz : w.heap.size < w1.heap.size := (by have := hb2.size; simp at this; omega)))
  go_ret
  exact ⟨rfl, hb1⟩

/-- val.Show, for every value. -/
theorem vshow_any (k : Int) {n : Int} (hn : inI n) (s : ByteArray) (w : World) (hs : s.size ≤ 9223372036854775807) (hL : LaidIn w) :
    Calls Tryz.prog 11 #[.agg #[.int .i64 k, .int .i64 n, .string s]] w fun e w' => e = .returned (.string ⟨(vShow k n s.data.toList).toArray⟩) ∧ Below w.heap.size w w' := by
  unfold vShow
  cases hr : vRight k n s.data.toList
  · exact vshow_no k hn s hs hr w hL
  · rw [if_pos rfl]
    rcases right_kind hr with rfl | rfl | rfl | rfl | rfl
    · exact vshow_1 hn s hs hr w hL
    · exact vshow_2 hn s hs hr w hL
    · exact vshow_3 hn s hs hr w hL
    · exact vshow_4 hn s hs hr w hL
    · exact vshow_5 hn s hs hr w hL

theorem vshow_in (k : Int) {n : Int} (hn : inI n) (s : ByteArray) (w : World) (hs : s.size ≤ 9223372036854775807) (hL : LaidIn w) (W : World) (hW : Below w.heap.size w W) :
    Calls Tryz.prog 11 #[.agg #[.int .i64 k, .int .i64 n, .string s]] W fun e w' => e = .returned (.string ⟨(vShow k n s.data.toList).toArray⟩) ∧ Below w.heap.size w w' ∧ Below W.heap.size W w' :=
  (vshow_any k hn s W hs (hL.below hW)).mono fun _ _ ⟨he, hb⟩ => ⟨he, hW.trans (hb.mono hW.size), hb⟩

end Go.Proofs.YtadehoibjpmhhaaGreatDoor
