/- sum.begun at any bytes: are they a beginning of a number; slices.ContainsFunc and IndexFunc with its closure; bytes.Equal. Conditions: the slices hold their bytes. -/
import Derived.Test.YtadehoibjpmhhaaDoorSF
namespace Go.Proofs.YtadehoibjpmhhaaDoor
open Go.RowKit

theorem begun1 (x : Int) (w : World) : Calls Tryd.prog 121 #[.int .u8 x] w fun e w' => e = .returned (.bool (decide (x < 128))) ∧ w = w' := by
  go_enter Tryd.func121, Tryd.ntmps121
  go_wp2
  go_ret
  exact ⟨rfl, rfl⟩

def allBig (l : List UInt8) : Bool := l.all fun x => decide (128 ≤ x.toNat)
theorem allBig_take {l : List UInt8} {k : Nat} (h : k < l.length) : allBig (l.take (k + 1)) = (allBig (l.take k) && decide (128 ≤ (l[k]).toNat)) := by
  unfold allBig
  rw [List.take_succ_eq_append_getElem h, List.all_append]
  simp
theorem allBig_no {l : List UInt8} {k : Nat} (h : k < l.length) (hx : (l[k]).toNat < 128) : allBig l = false := by
  unfold allBig
  rw [List.all_eq_false]
  exact ⟨l[k], List.getElem_mem h, by simp; omega⟩

set_option maxHeartbeats 1000000 in
theorem indexFunc_in (b off c : Nat) (l : List UInt8) (hl : l.length ≤ 9223372036854775807) (w : World) (h : Holds w b off l) :
    Calls Tryd.prog 127 #[.slice (some ⟨b, off, none⟩) l.length c, .func (.func 121) #[] #[]] w fun e w' => (∃ i : Int, e = .returned (.int .i64 i) ∧ Hid (decide (0 ≤ i) = !allBig l)) ∧ w' = w := by
  obtain ⟨m, hm⟩ : ∃ m, l.length = m := ⟨_, rfl⟩
  rw [hm]
  have HM := hid hm
  have hml : m ≤ 9223372036854775807 := by omega
  clear hm hl
  go_enter Tryd.func127, Tryd.ntmps127
  go_wp2
  go_loopw [8] (fun vi wr => ∃ k : Nat, k ≤ m ∧ vi = .int .i64 k ∧ Hid (allBig (l.take k) = true) ∧ wr = w) (fun vi _ => m - (intOf vi).toNat)
  case atStart => exact ⟨0, by omega, rfl, rfl, rfl⟩
  case round =>
    obtain ⟨k, hk, rfl, HA, rfl⟩ := hrel
    by_cases hlt : k < m
    · have hkl : k < l.length := by rw [HM.out]; exact hlt
      have hc := h k hkl
      rw [List.getD_eq_getElem?_getD, List.getElem?_eq_getElem hkl, Option.getD_some] at hc
      obtain ⟨x, hx⟩ : ∃ x : Int, (((l[k]).toNat : Nat) : Int) = x := ⟨_, rfl⟩
      rw [hx] at hc
      have HX := hid hx
      clear hx
      go_wp2_with (go_at_call 121; refine (begun1 x _).mono ?_; rintro e w2 ⟨rfl, rfl⟩)
      · rename_i hx128
        go_ret
        refine ⟨⟨_, rfl, ?_⟩, rfl⟩
        unfold Hid
        rw [allBig_no hkl (by have := HX.out; omega), decide_eq_true (by omega)]
        rfl
      · rename_i hx128
        go_roundw
        case rel =>
          refine ⟨k + 1, by omega, by go_num, ?_, trivial⟩
          unfold Hid
          rw [allBig_take hkl, HA.out, Bool.true_and, decide_eq_true_eq]
          have := HX.out
          omega
        case measure => simp [intOf]; omega
    · go_wp2
      go_ret
      refine ⟨⟨_, rfl, ?_⟩, rfl⟩
      unfold Hid
      have h1 := HA.out
      rw [List.take_of_length_le (by have := HM.out; omega)] at h1
      rw [h1]
      rfl

set_option maxHeartbeats 1000000 in
theorem indexFunc_nil (A : Option Addr) (c : Nat) (w : World) :
    Calls Tryd.prog 127 #[.slice A 0 c, .func (.func 121) #[] #[]] w fun e w' => (∃ i : Int, e = .returned (.int .i64 i) ∧ Hid (decide (0 ≤ i) = !allBig [])) ∧ w' = w := by
  go_enter Tryd.func127, Tryd.ntmps127
  go_wp2
  go_loopw [8] (fun vi wr => vi = .int .i64 0 ∧ wr = w) (fun _ _ => 0)
  case atStart => exact ⟨rfl, rfl⟩
  case round =>
    obtain ⟨rfl, rfl⟩ := hrel
    go_wp2
    go_ret
    exact ⟨⟨_, rfl, rfl⟩, rfl⟩

theorem indexFunc_any (A : Option Addr) (c : Nat) (l : List UInt8) (hl : l.length ≤ 9223372036854775807) (w : World) (h : HoldsA w A l) :
    Calls Tryd.prog 127 #[.slice A l.length c, .func (.func 121) #[] #[]] w fun e w' => (∃ i : Int, e = .returned (.int .i64 i) ∧ Hid (decide (0 ≤ i) = !allBig l)) ∧ w' = w := by
  by_cases h0 : 0 < l.length
  · obtain ⟨b, off, rfl, hh⟩ := h h0
    exact indexFunc_in b off c l hl w hh
  · have : l = [] := List.eq_nil_of_length_eq_zero (by omega)
    subst this
    exact indexFunc_nil A c w

set_option maxHeartbeats 1000000 in
theorem containsFunc_any (A : Option Addr) (c : Nat) (l : List UInt8) (hl : l.length ≤ 9223372036854775807) (w : World) (h : HoldsA w A l) :
    Calls Tryd.prog 120 #[.slice A l.length c, .func (.func 121) #[] #[]] w fun e w' => e = .returned (.bool (!allBig l)) ∧ w' = w := by
  have HI := hid (indexFunc_any A c l hl w h)
  clear hl h
  go_enter Tryd.func120, Tryd.ntmps120
  go_wp2_with (go_at_call 127; refine HI.out.mono ?_; rintro e w2 ⟨⟨i, rfl, hi⟩, rfl⟩)
  go_ret
  rw [hi.out]
  exact ⟨rfl, rfl⟩

theorem openB_eq (l : List UInt8) : openB l = (decide (l.length < 9) && allBig l) := by
  unfold openB allBig
  rw [show decide (l.length ≤ 8) = decide (l.length < 9) from decide_eq_decide.2 (by omega)]

set_option maxHeartbeats 1000000 in
theorem begun_any (A : Option Addr) (c : Nat) (l : List UInt8) (hl : l.length ≤ 9223372036854775807) (w : World) (h : HoldsA w A l) :
    Calls Tryd.prog 107 #[.slice A l.length c] w fun e w' => e = .returned (.bool (openB l)) ∧ w' = w := by
  have HI := hid (containsFunc_any A c l hl w h)
  have HE := hid (openB_eq l)
  obtain ⟨q, hq⟩ : ∃ q, allBig l = q := ⟨_, rfl⟩
  rw [hq] at HI HE
  obtain ⟨m, hm⟩ : ∃ m, l.length = m := ⟨_, rfl⟩
  rw [hm] at HI HE
  rw [hm]
  rw [hm] at hl
  clear h hq hm
  by_cases h9 : m < 9
  · go_enter Tryd.func107, Tryd.ntmps107
    go_wp2_with (go_at_call 120; refine HI.out.mono ?_; rintro e w2 ⟨rfl, rfl⟩)
    go_ret
    rw [HE.out, decide_eq_true h9]
    simp
  · go_enter Tryd.func107, Tryd.ntmps107
    go_wp2_with (go_at_call 120; refine HI.out.mono ?_; rintro e w2 ⟨rfl, rfl⟩)
    go_ret
    rw [HE.out, decide_eq_false h9]
    exact ⟨rfl, rfl⟩
end Go.Proofs.YtadehoibjpmhhaaDoor
