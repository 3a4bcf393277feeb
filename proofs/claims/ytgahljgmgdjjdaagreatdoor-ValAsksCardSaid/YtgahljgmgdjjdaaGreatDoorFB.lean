/- strings.HasPrefix, strings.CutPrefix, strings.Repeat of "0", for the arguments that package float hands them. -/
import Derived.Test.YtgahljgmgdjjdaaGreatDoorFA
namespace Go.Proofs.YtgahljgmgdjjdaaGreatDoor
open Go.RowKit

def zeros (k : Nat) : ByteArray := ⟨(List.replicate k (48 : UInt8)).toArray⟩

set_option maxHeartbeats 400000 in
theorem mul_one {b : Int} (hb : 0 ≤ b) (hb' : b ≤ 100) (w : World) :
    Calls Tryz.prog 78 #[.int .u64 1, .int .u64 b] w fun e w' => e = .returned (.tuple #[.int .u64 0, .int .u64 b]) ∧ w = w' := by
  have a1 : bits .and .u64 1 4294967295 = 1 := by rfl
  have a2 : bits .and .u64 b 4294967295 = b := by
    rw [u64_and _ _ (by omega) (by omega) (by omega) (by omega)]
    rw [show (4294967295 : Int).toNat = 2 ^ 32 - 1 from rfl, Nat.and_two_pow_sub_one_eq_mod]
    omega
  have a3 : b / 4294967296 = 0 := by omega
  have a4 : bits .and .u64 0 4294967295 = 0 := by rfl
  go_enter Tryz.func78, Tryz.ntmps78
  go_wp2
  go_ret2
  refine ⟨?_, rfl⟩
  rfl

set_option maxHeartbeats 400000 in
theorem hp_ne (s : ByteArray) (h1 : 1 ≤ s.size) (h2 : s.size ≤ 9223372036854775807) (h : ((s.extract 0 1).toList == [48]) = false) (w : World) :
    Calls Tryz.prog 68 #[.string s, .string ⟨#[48]⟩] w fun e w' => e = .returned (.bool false) ∧ w = w' := by
  have hp1 : (⟨#[48]⟩ : ByteArray).size = 1 := rfl
  have hp2 : (⟨#[48]⟩ : ByteArray).toList = [48] := by decide +kernel
  go_enter Tryz.func68, Tryz.ntmps68
  go_wp2
  go_ret
  exact ⟨rfl, rfl⟩
set_option maxHeartbeats 400000 in
theorem hp_eq (s : ByteArray) (h1 : 1 ≤ s.size) (h2 : s.size ≤ 9223372036854775807) (h : ((s.extract 0 1).toList == [48]) = true) (w : World) :
    Calls Tryz.prog 68 #[.string s, .string ⟨#[48]⟩] w fun e w' => e = .returned (.bool true) ∧ w = w' := by
  have hp1 : (⟨#[48]⟩ : ByteArray).size = 1 := rfl
  have hp2 : (⟨#[48]⟩ : ByteArray).toList = [48] := by decide +kernel
  go_enter Tryz.func68, Tryz.ntmps68
  go_wp2
  go_ret
  exact ⟨rfl, rfl⟩

theorem zeros_cut : ∀ k : Nat, k < 16 → (zeros 64).extract 0 k = zeros k := by decide +kernel

set_option maxHeartbeats 400000 in
theorem repeat_some (k : Nat) (hk2 : 2 ≤ k) (hk : k ≤ 15) (w : World) :
    Calls Tryz.prog 63 #[.string ⟨#[48]⟩, .int .i64 k] w fun e w' => e = .returned (.string (zeros k)) ∧ w = w' := by
  have hp1 : (⟨#[48]⟩ : ByteArray).size = 1 := rfl
  have q1 : ((⟨#[48]⟩ : ByteArray)[0].toNat : Int) = 48 := rfl
  go_enter Tryz.func63, Tryz.ntmps63
  go_wp2_with (first | (go_at_call 78; refine (mul_one (by omega) (by omega) _).mono ?_; rintro e w' ⟨rfl, rfl⟩) | (go_at_call 68; refine (hp_ne _ (by decide +kernel) (by decide +kernel) (by decide +kernel) _).mono ?_; rintro e w' ⟨rfl, rfl⟩) | (go_at_call 68; refine (hp_eq _ (by decide +kernel) (by decide +kernel) (by decide +kernel) _).mono ?_; rintro e w' ⟨rfl, rfl⟩))
  go_ret
  exact ⟨congrArg (fun s => Ending.returned (Value.string s)) (zeros_cut k (by omega)), rfl⟩

set_option maxRecDepth 100000 in
theorem repeat_zeros (k : Nat) (hk : k ≤ 15) (w : World) :
    Calls Tryz.prog 63 #[.string ⟨#[48]⟩, .int .i64 k] w fun e w' => e = .returned (.string (zeros k)) ∧ w = w' := by
  by_cases h2 : 2 ≤ k
  · exact repeat_some k h2 hk w
  · rcases (show k = 0 ∨ k = 1 by omega) with rfl | rfl
    · go_enter Tryz.func63, Tryz.ntmps63
      go_wp2
      go_ret
      exact ⟨rfl, rfl⟩
    · go_enter Tryz.func63, Tryz.ntmps63
      go_wp2
      go_ret
      exact ⟨rfl, rfl⟩

set_option maxHeartbeats 400000 in
theorem cutPrefix_no (s p : ByteArray) (_hs : s.size ≤ maxLen) (_hp : p.size ≤ maxLen) (h : p.size ≤ s.size → ((s.extract 0 p.size).toList == p.toList) = false) (w : World) :
    Calls Tryz.prog 86 #[.string s, .string p] w fun e w' => e = .returned (.tuple #[.string s, .bool false]) ∧ w = w' := by
  unfold maxLen at _hs _hp
  by_cases hl : p.size ≤ s.size
  · have h1 := h hl
    clear h
    go_enter Tryz.func86, Tryz.ntmps86
    go_wp2
    go_ret2
    exact ⟨rfl, rfl⟩
  · clear h
    go_enter Tryz.func86, Tryz.ntmps86
    go_wp2
    go_ret2
    exact ⟨rfl, rfl⟩
set_option maxHeartbeats 400000 in
theorem cutPrefix_yes (s p : ByteArray) (_hs : s.size ≤ maxLen) (_hp : p.size ≤ maxLen) (hl : p.size ≤ s.size) (h : ((s.extract 0 p.size).toList == p.toList) = true) (w : World) :
    Calls Tryz.prog 86 #[.string s, .string p] w fun e w' => e = .returned (.tuple #[.string (s.extract p.size s.size), .bool true]) ∧ w = w' := by
  unfold maxLen at _hs _hp
  go_enter Tryz.func86, Tryz.ntmps86
  go_wp2
  go_ret2
  exact ⟨rfl, rfl⟩

end Go.Proofs.YtgahljgmgdjjdaaGreatDoor
