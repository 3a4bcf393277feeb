/- The document's Show, for every value with a text of at most a thousand bytes. Conditions: the number is of 64 bits. -/
import Derived.Test.YtadehoibjpmhhaaGreatDoorRF
import Derived.Test.YtadehoibjpmhhaaGreatDoorMB
import Derived.Test.YtadehoibjpmhhaaGreatDoorVI
namespace Go.Proofs.YtadehoibjpmhhaaGreatDoor
open Go.RowKit

theorem refright_in (k n : Int) (s : ByteArray) (w : World) (hs : s.size ≤ 1000) (W : World) (hW : Below w.heap.size w W) :
    Calls Tryz.prog 38 #[.agg #[.int .i64 k, .int .i64 n, .string s]] W fun e w' => e = .returned (.bool (vRight k n s.data.toList)) ∧ Below w.heap.size w w' ∧ Below W.heap.size W w' :=
  (refright_any k n s W hs).mono fun _ _ ⟨he, hb⟩ => ⟨he, hW.trans (hb.mono hW.size), hb⟩

set_option maxHeartbeats 1000000 in
theorem refvshow_1 {n : Int} (hn : inI n) (s : ByteArray) (hs : s.size ≤ 1000) (hr : vRight 1 n s.data.toList = true) (w : World) :
    Calls Tryz.prog 21 #[.agg #[.int .i64 1, .int .i64 n, .string s]] w fun e w' => e = .returned (.string ⟨(Lib.itoa n).toArray⟩) ∧ Below w.heap.size w w' := by
  have HV := hid (refright_in 1 n s w hs)
  have HI : Hid (∀ W, Below w.heap.size w W → Calls Tryz.prog 47 #[.int .i64 n] W fun e w' => e = .returned (.string ⟨(Lib.itoa n).toArray⟩) ∧ Below W.heap.size W w') := fun W _ => (refDecimal_any hn W).mono fun _ w' ⟨he, hw⟩ => ⟨he, by subst hw; exact Below.refl _ _⟩
  rw [hr] at HV
  clear hr hs
  have HB := hid (below_new w)
  go_enter Tryz.func21, Tryz.ntmps21
  go_wp2_with (first | (go_at_call 38; refine (HV.out _ (HB.out _)).mono ?_; rintro e w1 ⟨rfl, hb1, hb2⟩; obtain ⟨hc, hf⟩ := bcell hb2; have hz : w.heap.size < w1.heap.size := (by have := hb2.size; simp at this; omega)) | (go_at_call 47; refine (HI.out _ (by assumption)).mono ?_; rintro e w2 ⟨rfl, hb3⟩))
  go_ret
  exact ⟨rfl, hb1.trans (hb3.mono hb1.size)⟩

set_option maxHeartbeats 1000000 in
theorem refvshow_2 {n : Int} (_ : inI n) (s : ByteArray) (hs : s.size ≤ 1000) (hr : vRight 2 n s.data.toList = true) (w : World) :
    Calls Tryz.prog 21 #[.agg #[.int .i64 2, .int .i64 n, .string s]] w fun e w' => e = .returned (.string ⟨(98 :: 34 :: (quo s.data.toList ++ [34])).toArray⟩) ∧ Below w.heap.size w w' := by
  have HV := hid (refright_in 2 n s w hs)
  have hl : s.size ≤ 1000 := by
    have h1 := right_len hr
    have h2 : s.data.toList.length = s.size := rfl
    omega
  have HQ : Hid (∀ W : World, Calls Tryz.prog 48 #[.string s] W fun e w' => e = .returned (.string ⟨(34 :: (quo s.data.toList ++ [34])).toArray⟩) ∧ Below W.heap.size W w') := fun W => refQuoted_any s hl W
  have HC := hid (cat_one 98 (34 :: (quo s.data.toList ++ [34])))
  have hq : ¬ 9223372036854775807 < 1 + (⟨(34 :: (quo s.data.toList ++ [34])).toArray⟩ : ByteArray).size := by
    rw [mk_size]
    have h1 := quo_len s.data.toList
    have h2 : s.data.toList.length = s.size := rfl
    simp only [List.length_cons, List.length_append, List.length_nil]
    omega
  generalize (⟨(34 :: (quo s.data.toList ++ [34])).toArray⟩ : ByteArray) = q at *
  clear hl
  rw [hr] at HV
  clear hr hs
  have HB := hid (below_new w)
  go_enter Tryz.func21, Tryz.ntmps21
  go_wp2_with (first | (go_at_call 38; refine (HV.out _ (HB.out _)).mono ?_; rintro e w1 ⟨rfl, hb1, hb2⟩; obtain ⟨hc, hf⟩ := bcell hb2; have hz : w.heap.size < w1.heap.size := (by have := hb2.size; simp at this; omega)) | (go_at_call 48; refine (HQ.out _).mono ?_; rintro e w2 ⟨rfl, hb3⟩))
  go_ret
  exact ⟨congrArg (fun x => Ending.returned (.string x)) HC.out, hb1.trans (hb3.mono hb1.size)⟩

set_option maxHeartbeats 1000000 in
theorem refvshow_3 {n : Int} (_ : inI n) (s : ByteArray) (hs : s.size ≤ 1000) (hr : vRight 3 n s.data.toList = true) (w : World) :
    Calls Tryz.prog 21 #[.agg #[.int .i64 3, .int .i64 n, .string s]] w fun e w' => e = .returned (.string ⟨(116 :: 34 :: (quo s.data.toList ++ [34])).toArray⟩) ∧ Below w.heap.size w w' := by
  have HV := hid (refright_in 3 n s w hs)
  have hl : s.size ≤ 1000 := by
    have h1 := right_len hr
    have h2 : s.data.toList.length = s.size := rfl
    omega
  have HQ : Hid (∀ W : World, Calls Tryz.prog 48 #[.string s] W fun e w' => e = .returned (.string ⟨(34 :: (quo s.data.toList ++ [34])).toArray⟩) ∧ Below W.heap.size W w') := fun W => refQuoted_any s hl W
  have HC := hid (cat_one 116 (34 :: (quo s.data.toList ++ [34])))
  have hq : ¬ 9223372036854775807 < 1 + (⟨(34 :: (quo s.data.toList ++ [34])).toArray⟩ : ByteArray).size := by
    rw [mk_size]
    have h1 := quo_len s.data.toList
    have h2 : s.data.toList.length = s.size := rfl
    simp only [List.length_cons, List.length_append, List.length_nil]
    omega
  generalize (⟨(34 :: (quo s.data.toList ++ [34])).toArray⟩ : ByteArray) = q at *
  clear hl
  rw [hr] at HV
  clear hr hs
  have HB := hid (below_new w)
  go_enter Tryz.func21, Tryz.ntmps21
  go_wp2_with (first | (go_at_call 38; refine (HV.out _ (HB.out _)).mono ?_; rintro e w1 ⟨rfl, hb1, hb2⟩; obtain ⟨hc, hf⟩ := bcell hb2; have hz : w.heap.size < w1.heap.size := (by have := hb2.size; simp at this; omega)) | (go_at_call 48; refine (HQ.out _).mono ?_; rintro e w2 ⟨rfl, hb3⟩))
  go_ret
  exact ⟨congrArg (fun x => Ending.returned (.string x)) HC.out, hb1.trans (hb3.mono hb1.size)⟩

set_option maxHeartbeats 1000000 in
theorem refvshow_4 {n : Int} (_ : inI n) (s : ByteArray) (hs : s.size ≤ 1000) (hr : vRight 4 n s.data.toList = true) (w : World) :
    Calls Tryz.prog 21 #[.agg #[.int .i64 4, .int .i64 n, .string s]] w fun e w' => e = .returned (.string ⟨(if n = 1 then [116, 114, 117, 101] else [102, 97, 108, 115, 101]).toArray⟩) ∧ Below w.heap.size w w' := by
  have HV := hid (refright_in 4 n s w hs)
  have h01 : n = 0 ∨ n = 1 := by simp [vRight] at hr; exact hr.2
  rw [hr] at HV
  clear hr hs
  have HB := hid (below_new w)
  have ht : (if (1 : Int) = 1 then ([116, 114, 117, 101] : List UInt8) else [102, 97, 108, 115, 101]) = [116, 114, 117, 101] := rfl
  have hf : (if (0 : Int) = 1 then ([116, 114, 117, 101] : List UInt8) else [102, 97, 108, 115, 101]) = [102, 97, 108, 115, 101] := rfl
  rcases h01 with rfl | rfl
  · rw [hf]
    clear ht hf
    go_enter Tryz.func21, Tryz.ntmps21
    go_wp2_with (first | (go_at_call 38; refine (HV.out _ (HB.out _)).mono ?_; rintro e w1 ⟨rfl, hb1, hb2⟩; obtain ⟨hc, hf⟩ := bcell hb2; have hz : w.heap.size < w1.heap.size := (by have := hb2.size; simp at this; omega)))
    go_ret
    exact ⟨rfl, hb1⟩
  · rw [ht]
    clear ht hf
    go_enter Tryz.func21, Tryz.ntmps21
    go_wp2_with (first | (go_at_call 38; refine (HV.out _ (HB.out _)).mono ?_; rintro e w1 ⟨rfl, hb1, hb2⟩; obtain ⟨hc, hf⟩ := bcell hb2; have hz : w.heap.size < w1.heap.size := (by have := hb2.size; simp at this; omega)))
    go_ret
    exact ⟨rfl, hb1⟩

set_option maxHeartbeats 1000000 in
theorem refvshow_5 {n : Int} (hn : inI n) (s : ByteArray) (hs : s.size ≤ 1000) (hr : vRight 5 n s.data.toList = true) (w : World) :
    Calls Tryz.prog 21 #[.agg #[.int .i64 5, .int .i64 n, .string s]] w fun e w' => e = .returned (.string ⟨(102 :: showT n).toArray⟩) ∧ Below w.heap.size w w' := by
  have HV := hid (refright_in 5 n s w hs)
  have HF : Hid (∀ W, Below w.heap.size w W → Calls Tryz.prog 46 #[.int .i64 n] W fun e w' => e = .returned (.string ⟨(showT n).toArray⟩) ∧ Below w.heap.size w w') := fun W hW => (refShow_any hn W).mono fun _ w' ⟨he, hw⟩ => ⟨he, by subst hw; exact hW⟩
  have HC := hid (cat_one 102 (showT n))
  have hq : ¬ 9223372036854775807 < 1 + (⟨(showT n).toArray⟩ : ByteArray).size := by
    rw [mk_size]
    have := showT_len n
    omega
  generalize (⟨(showT n).toArray⟩ : ByteArray) = q at *
  rw [hr] at HV
  clear hr hs
  have HB := hid (below_new w)
  go_enter Tryz.func21, Tryz.ntmps21
  go_wp2_with (first | (go_at_call 38; refine (HV.out _ (HB.out _)).mono ?_; rintro e w1 ⟨rfl, hb1, hb2⟩; obtain ⟨hc, hf⟩ := bcell hb2; have hz : w.heap.size < w1.heap.size := (by have := hb2.size; simp at this; omega)) | (go_at_call 46; refine (HF.out _ (by assumption)).mono ?_; rintro e w2 ⟨rfl, hb3⟩))
  go_ret
  exact ⟨congrArg (fun x => Ending.returned (.string x)) HC.out, hb3⟩

set_option maxHeartbeats 1000000 in
theorem refvshow_no (k : Int) {n : Int} (_ : inI n) (s : ByteArray) (hs : s.size ≤ 1000) (hr : vRight k n s.data.toList = false) (w : World) :
    Calls Tryz.prog 21 #[.agg #[.int .i64 k, .int .i64 n, .string s]] w fun e w' => e = .returned (.string ⟨#[63]⟩) ∧ Below w.heap.size w w' := by
  have HV := hid (refright_in k n s w hs)
  rw [hr] at HV
  clear hr hs
  have HB := hid (below_new w)
  go_enter Tryz.func21, Tryz.ntmps21
  go_wp2_with (first | (go_at_call 38; refine (HV.out _ (HB.out _)).mono ?_; rintro e w1 ⟨rfl, hb1, hb2⟩; obtain ⟨hc, hf⟩ := bcell hb2; have hz : w.heap.size < w1.heap.size := (by have := hb2.size; simp at this; omega)))
  go_ret
  exact ⟨rfl, hb1⟩

/-- val.Show, for every value. -/
theorem refvshow_any (k : Int) {n : Int} (hn : inI n) (s : ByteArray) (w : World) (hs : s.size ≤ 1000) :
    Calls Tryz.prog 21 #[.agg #[.int .i64 k, .int .i64 n, .string s]] w fun e w' => e = .returned (.string ⟨(vShow k n s.data.toList).toArray⟩) ∧ Below w.heap.size w w' := by
  unfold vShow
  cases hr : vRight k n s.data.toList
  · exact refvshow_no k hn s hs hr w
  · rw [if_pos rfl]
    rcases right_kind hr with rfl | rfl | rfl | rfl | rfl
    · exact refvshow_1 hn s hs hr w
    · exact refvshow_2 hn s hs hr w
    · exact refvshow_3 hn s hs hr w
    · exact refvshow_4 hn s hs hr w
    · exact refvshow_5 hn s hs hr w

end Go.Proofs.YtadehoibjpmhhaaGreatDoor
