/- The document's Decimal, for every int. Conditions: the int is of 64 bits. -/
import Derived.Test.YtgahljgmgdjjdaaGreatDoorFT
import Derived.Lib.ItoaLen
import Derived.Lib.ItoaMem
namespace Go.Proofs.YtgahljgmgdjjdaaGreatDoor
open Go.RowKit

def decConst : ByteArray := ⟨#[48, 49, 50, 51, 52, 53, 54, 55, 56, 57]⟩
theorem decConst_at : ∀ d : Nat, d < 10 → (decConst.extract d (d + 1)).data.toList = [UInt8.ofNat (48 + d)] := by decide +kernel
theorem dec_big (u : Nat) (h : ¬ u < 10) : Lib.decDigits u = Lib.decDigits (u / 10) ++ [UInt8.ofNat (48 + u % 10)] := by
  rw [Lib.decDigits, dif_neg h]
theorem dec_len {U : Nat} (h : U ≤ 9223372036854775808) : (Lib.decDigits U).length ≤ 21 := by
  have h1 := Lib.itoa_length_le (-(U : Int)) (by omega) (by omega)
  by_cases h0 : U = 0
  · subst h0; decide +kernel
  · rw [Lib.itoa_neg U (by omega)] at h1
    simp at h1
    omega

/-- What the loop knows. -/
def DcInv (U : Nat) (vs vu : Value) : Prop :=
  ∃ (u : Nat) (S : ByteArray), u < 18446744073709551616 ∧ vs = .string S ∧ vu = .int .u64 u ∧ Lib.decDigits U = Lib.decDigits u ++ S.data.toList ∧ S.size ≤ 30

theorem cat_list (a b : ByteArray) : (a ++ b).data.toList = a.data.toList ++ b.data.toList := by rw [ByteArray.data_append, Array.toList_append]
theorem bytes_eq {s1 s2 : ByteArray} (h : s1.data.toList = s2.data.toList) : s1 = s2 := by
  apply ByteArray.ext
  exact Array.ext' h

set_option maxHeartbeats 2000000 in
theorem decimal_core {n : Int} (U : Nat) (hU : U ≤ 9223372036854775808) (V : Nat) (hx : IntKind.u64.wrap n = (V : Int)) (hsel : (n < 0 ∧ IntKind.u64.wrap (-(V : Int)) = (U : Int)) ∨ (¬ n < 0 ∧ U = V)) (w : World) :
    Calls Tryz.prog 42 #[.int .i64 n] w fun e w' => e = .returned (.string ⟨(if n < 0 then 45 :: Lib.decDigits U else Lib.decDigits U).toArray⟩) ∧ w = w' := by
  have HL := hid (dec_len hU)
  rcases hsel with ⟨hn, hy⟩ | ⟨hn, rfl⟩ <;>
  · go_enter Tryz.func42, Tryz.ntmps42
    go_wp2
    go_loop [3, 4] (fun vs vu => DcInv U vs vu) (fun _ vu => (intOf vu).toNat)
    case atStart => exact ⟨_, ⟨#[]⟩, by omega, rfl, rfl, by simp, by decide⟩
    case round =>
      obtain ⟨u, S, hu, rfl, rfl, hd, hS⟩ := hrel
      have hl := HL.out
      rw [hd, List.length_append] at hl
      have hSl : S.data.toList.length = S.size := rfl
      have hul : 1 ≤ (Lib.decDigits u).length := by
        rw [Lib.decDigits_length]
        exact Lib.nDigits_pos u
      have hS2 : S.size ≤ 20 := by omega
      have HD := hid hd
      obtain ⟨d, hdd⟩ : ∃ d, u % 10 = d := ⟨_, rfl⟩
      have hrem : (u : Int).tmod 10 = (d : Int) := by rw [Int.tmod_eq_emod_of_nonneg (by omega)]; omega
      have hrem2 : (u : Int) % 10 = (d : Int) := by omega
      have hd9 : d ≤ 9 := by omega
      have HDD := hid hdd
      have HA := hid (decConst_at d (by omega))
      clear hd hdd hl hSl hul hS
      by_cases h10 : u < 10
      · have hquo : (u : Int) / 10 = 0 := by omega
        have HR : Hid (Lib.decDigits U = (decConst.extract d (d + 1) ++ S).data.toList) := by
          unfold Hid
          rw [cat_list, HA.out, HD.out, Lib.decDigits_one h10]
          have : u = d := by have := HDD.out; omega
          rw [this]
        clear h10
        go_wp2
        go_ret
        refine ⟨congrArg (fun s => Ending.returned (Value.string s)) (bytes_eq ?_), rfl⟩
        first
          | (rw [cat_list, HR.out]; rfl)
          | (rw [HR.out]; rfl)
      · obtain ⟨q, hq⟩ : ∃ q, u / 10 = q := ⟨_, rfl⟩
        have hquo : (u : Int) / 10 = (q : Int) := by omega
        have hq0 : ((q : Int) == 0) = false := by simp; omega
        have hqu : q < u := by omega
        have HR : Hid (Lib.decDigits U = Lib.decDigits q ++ (decConst.extract d (d + 1) ++ S).data.toList) := by
          unfold Hid
          rw [cat_list, HA.out, HD.out, dec_big u h10, hq, HDD.out, List.append_assoc]
        have HZ : Hid ((decConst.extract d (d + 1) ++ S).size ≤ 30) := by
          have h1 := congrArg List.length (cat_list (decConst.extract d (d + 1)) S)
          rw [HA.out] at h1
          have h2 : (decConst.extract d (d + 1) ++ S).data.toList.length = (decConst.extract d (d + 1) ++ S).size := rfl
          have h3 : S.data.toList.length = S.size := rfl
          simp only [List.length_append, List.length_cons, List.length_nil] at h1
          unfold Hid
          omega
        clear hq h10
        go_wp2
        go_round
        case rel => exact ⟨q, _, by omega, rfl, rfl, HR.out, HZ.out⟩
        case measure => simp [intOf]; omega

/-- The document's Decimal, for every int. -/
theorem refDecimal_any {n : Int} (hn : inI n) (w : World) :
    Calls Tryz.prog 42 #[.int .i64 n] w fun e w' => e = .returned (.string ⟨(Lib.itoa n).toArray⟩) ∧ w = w' := by
  unfold inI at hn
  unfold Lib.itoa
  by_cases h : n < 0
  · have := decimal_core (n := n) n.natAbs (by omega) (n + 18446744073709551616).toNat (by rw [IntKind.wrap_u64]; omega) (.inl ⟨h, by rw [IntKind.wrap_u64]; omega⟩) w
    rw [if_pos h] at this ⊢
    exact this
  · have := decimal_core (n := n) n.toNat (by omega) n.toNat (by rw [IntKind.wrap_u64]; omega) (.inr ⟨h, rfl⟩) w
    rw [if_neg h] at this ⊢
    exact this

end Go.Proofs.YtgahljgmgdjjdaaGreatDoor
