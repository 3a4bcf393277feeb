/- float.Show for every int: its text. Conditions: an int of 64 bits; the table of math/bits reads as it is laid. -/
import Derived.Test.YtgahljgmgdjjdaaGreatDoorFC
namespace Go.Proofs.YtgahljgmgdjjdaaGreatDoor
open Go.RowKit

def nanT : List UInt8 := [110, 97, 110]
def infT : List UInt8 := [105, 110, 102]
def minfT : List UInt8 := [45, 105, 110, 102]
def zeroT : List UInt8 := [48]
def mzeroT : List UInt8 := [45, 48]
/-- What the bits x, right ones, are shown as. -/
def textW (x : Nat) : List UInt8 :=
  if x = 9221120237041090560 then nanT else if x = 9218868437227405312 then infT else if x = 18442240474082181120 then minfT
  else if x = 0 then zeroT else if x = 9223372036854775808 then mzeroT else 120 :: fixW 16 x
def showT (n : Int) : List UInt8 := if rightB n = true then textW (wd n) else [63]

theorem repeat_int {i : Int} (h0 : 0 ≤ i) (h15 : i ≤ 15) (w : World) :
    Calls Tryz.prog 63 #[.string ⟨#[48]⟩, .int .i64 i] w fun e w' => e = .returned (.string (zeros i.toNat)) ∧ w = w' := by
  obtain ⟨k, rfl⟩ := toNat_ofNat h0
  exact repeat_zeros k (by omega) w

theorem u64_wd (n : Int) : IntKind.u64.wrap n = (wd n : Int) := by rw [IntKind.wrap_u64]; unfold wd; omega

set_option maxHeartbeats 1000000 in
theorem show_no {n : Int} (h : inI n) (hr : rightB n = false) (w : World) :
    Calls Tryz.prog 40 #[.int .i64 n] w fun e w' => e = .returned (.string ⟨#[63]⟩) ∧ w = w' := by
  go_enter Tryz.func40, Tryz.ntmps40
  go_wp2_with (go_at_call 29; refine (right_any h _).mono ?_; rintro e w' ⟨rfl, rfl⟩)
  go_ret
  exact ⟨rfl, rfl⟩

theorem glue (x : Nat) : (⟨#[120]⟩ : ByteArray) ++ zeros (16 - (hexText x).length) ++ ⟨(hexText x).toArray⟩ = ⟨(120 :: (List.replicate (16 - (hexText x).length) 48 ++ hexText x)).toArray⟩ := by
  apply ByteArray.ext
  simp only [ByteArray.data_append]
  unfold zeros
  simp

set_option maxHeartbeats 1000000 in
theorem show_hex {n : Int} (h : inI n) (hr : rightB n = true) (x : Nat) (hx : IntKind.u64.wrap n = (x : Int)) (hxl : x < 18446744073709551616)
    (q1 : ((x : Int) == 9221120237041090560) = false) (q2 : ((x : Int) == 9218868437227405312) = false) (q3 : ((x : Int) == 18442240474082181120) = false)
    (q4 : ((x : Int) == 0) = false) (q5 : ((x : Int) == 9223372036854775808) = false) (w : World) (hc : w.cell? ⟨8, 15, none⟩ = some (.int .u8 4)) :
    Calls Tryz.prog 40 #[.int .i64 n] w fun e w' => e = .returned (.string ⟨(120 :: fixW 16 x).toArray⟩) ∧ Below w.heap.size w w' := by
  have hl1 : 1 ≤ (hexText x).length := by unfold hexText; rw [fixW_len]; exact hexLen_pos _ _
  have hl2 : (hexText x).length ≤ 16 := by unfold hexText; rw [fixW_len]; exact hexLen_le _ _
  have hz : (zeros (16 - (hexText x).length)).size ≤ 16 := by unfold zeros; simp [ByteArray.size]
  go_enter Tryz.func40, Tryz.ntmps40
  go_wp2_with (first | (go_at_call 63; refine (repeat_int (by omega) (by omega) _).mono ?_; rintro e w' ⟨rfl, rfl⟩) | (go_at_call 29; refine (right_any h _).mono ?_; rintro e w' ⟨rfl, rfl⟩) | (go_at_call 62; refine (formatUint x hxl _ hc).mono ?_; rintro e w' ⟨rfl, hb⟩))
  go_ret
  refine ⟨congrArg (fun s => Ending.returned (Value.string s)) ?_, hb⟩
  rw [← pad16 x hxl]
  exact glue x

set_option maxHeartbeats 1000000 in
theorem show_nan {n : Int} (h : inI n) (hr : rightB n = true) (hx : IntKind.u64.wrap n = 9221120237041090560) (w : World) :
    Calls Tryz.prog 40 #[.int .i64 n] w fun e w' => e = .returned (.string ⟨nanT.toArray⟩) ∧ w = w' := by
  go_enter Tryz.func40, Tryz.ntmps40
  go_wp2_with (go_at_call 29; refine (right_any h _).mono ?_; rintro e w' ⟨rfl, rfl⟩)
  go_ret
  exact ⟨rfl, rfl⟩
set_option maxHeartbeats 1000000 in
theorem show_inf {n : Int} (h : inI n) (hr : rightB n = true) (hx : IntKind.u64.wrap n = 9218868437227405312) (w : World) :
    Calls Tryz.prog 40 #[.int .i64 n] w fun e w' => e = .returned (.string ⟨infT.toArray⟩) ∧ w = w' := by
  go_enter Tryz.func40, Tryz.ntmps40
  go_wp2_with (go_at_call 29; refine (right_any h _).mono ?_; rintro e w' ⟨rfl, rfl⟩)
  go_ret
  exact ⟨rfl, rfl⟩
set_option maxHeartbeats 1000000 in
theorem show_minf {n : Int} (h : inI n) (hr : rightB n = true) (hx : IntKind.u64.wrap n = 18442240474082181120) (w : World) :
    Calls Tryz.prog 40 #[.int .i64 n] w fun e w' => e = .returned (.string ⟨minfT.toArray⟩) ∧ w = w' := by
  go_enter Tryz.func40, Tryz.ntmps40
  go_wp2_with (go_at_call 29; refine (right_any h _).mono ?_; rintro e w' ⟨rfl, rfl⟩)
  go_ret
  exact ⟨rfl, rfl⟩
set_option maxHeartbeats 1000000 in
theorem show_zero {n : Int} (h : inI n) (hr : rightB n = true) (hx : IntKind.u64.wrap n = 0) (w : World) :
    Calls Tryz.prog 40 #[.int .i64 n] w fun e w' => e = .returned (.string ⟨zeroT.toArray⟩) ∧ w = w' := by
  go_enter Tryz.func40, Tryz.ntmps40
  go_wp2_with (go_at_call 29; refine (right_any h _).mono ?_; rintro e w' ⟨rfl, rfl⟩)
  go_ret
  exact ⟨rfl, rfl⟩
set_option maxHeartbeats 1000000 in
theorem show_mzero {n : Int} (h : inI n) (hr : rightB n = true) (hx : IntKind.u64.wrap n = 9223372036854775808) (w : World) :
    Calls Tryz.prog 40 #[.int .i64 n] w fun e w' => e = .returned (.string ⟨mzeroT.toArray⟩) ∧ w = w' := by
  go_enter Tryz.func40, Tryz.ntmps40
  go_wp2_with (go_at_call 29; refine (right_any h _).mono ?_; rintro e w' ⟨rfl, rfl⟩)
  go_ret
  exact ⟨rfl, rfl⟩

theorem eq_below {v : Value} {w : World} : ∀ {u : Value}, u = v → ∀ (e : Ending) (w' : World), e = .returned u ∧ w = w' → e = .returned v ∧ Below w.heap.size w w' := by
  rintro u rfl e w' ⟨rfl, rfl⟩
  exact ⟨rfl, Below.refl _ _⟩

/-- float.Show: the text of every int. -/
theorem show_any {n : Int} (h : inI n) (w : World) (hc : w.cell? ⟨8, 15, none⟩ = some (.int .u8 4)) :
    Calls Tryz.prog 40 #[.int .i64 n] w fun e w' => e = .returned (.string ⟨(showT n).toArray⟩) ∧ Below w.heap.size w w' := by
  have hx := u64_wd n
  have hxl := wd_lt n
  cases hr : rightB n
  · exact (show_no h hr w).mono (eq_below (by unfold showT; rw [if_neg (by rw [hr]; decide)]))
  · unfold showT textW
    rw [if_pos hr]
    by_cases h1 : wd n = 9221120237041090560
    · rw [if_pos h1]; exact (show_nan h hr (by rw [hx, h1]; rfl) w).mono (eq_below rfl)
    rw [if_neg h1]
    by_cases h2 : wd n = 9218868437227405312
    · rw [if_pos h2]; exact (show_inf h hr (by rw [hx, h2]; rfl) w).mono (eq_below rfl)
    rw [if_neg h2]
    by_cases h3 : wd n = 18442240474082181120
    · rw [if_pos h3]; exact (show_minf h hr (by rw [hx, h3]; rfl) w).mono (eq_below rfl)
    rw [if_neg h3]
    by_cases h4 : wd n = 0
    · rw [if_pos h4]; exact (show_zero h hr (by rw [hx, h4]; rfl) w).mono (eq_below rfl)
    rw [if_neg h4]
    by_cases h5 : wd n = 9223372036854775808
    · rw [if_pos h5]; exact (show_mzero h hr (by rw [hx, h5]; rfl) w).mono (eq_below rfl)
    rw [if_neg h5]
    have ne : ∀ {a : Nat}, ¬ wd n = a → ((wd n : Int) == (a : Int)) = false := fun g => by simpa using fun h => g (by omega)
    exact show_hex h hr (wd n) hx hxl (ne h1) (ne h2) (ne h3) (ne h4) (ne h5) w hc

end Go.Proofs.YtgahljgmgdjjdaaGreatDoor
