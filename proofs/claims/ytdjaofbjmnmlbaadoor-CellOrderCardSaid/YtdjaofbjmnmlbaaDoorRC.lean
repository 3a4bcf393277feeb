/- The document's Utf8, for every text. Conditions: the text is no longer than any is. -/
import Derived.Test.YtdjaofbjmnmlbaaDoorVA
import Derived.Lib.ValidLaws
namespace Go.Proofs.YtdjaofbjmnmlbaaDoor
open Go.RowKit

/-- How many bytes follow the lead byte c; what of it counts; the least number. -/
def leadN (c : Nat) : Nat := if c < 194 then 0 else if c < 224 then 1 else if c < 240 then 2 else if c < 245 then 3 else 0
def contB (d : Nat) : Bool := decide (128 ≤ d) && decide (d ≤ 191)
def badC (c least : Nat) : Bool := decide (c < least) || decide (1114111 < c) || (decide (55296 ≤ c) && decide (c ≤ 57343))

theorem valid_1 (l : List UInt8) (hne : l ≠ []) (c : Nat) (hc : (l.getD 0 0).toNat = c) (h1 : 194 ≤ c) (h2 : c ≤ 223) :
    Lib.validD l = if 1 < l.length ∧ contB (l.getD 1 0).toNat = true then Lib.validD (l.drop 2) else false := by
  rw [Lib.validD_lead l hne (by omega), hc]
  have f1 : Lib.firstT c % 8 = 2 := by simp [Lib.firstT, show ¬ c < 128 by omega, show ¬ c < 194 by omega, show c < 224 by omega]
  have f2 : Lib.accLo (Lib.firstT c / 16) = 128 := by simp [Lib.firstT, Lib.accLo, show ¬ c < 128 by omega, show ¬ c < 194 by omega, show c < 224 by omega]
  have f3 : Lib.accHi (Lib.firstT c / 16) = 191 := by simp [Lib.firstT, Lib.accHi, show ¬ c < 128 by omega, show ¬ c < 194 by omega, show c < 224 by omega]
  rw [f1, f2, f3]
  generalize (l.getD 1 0).toNat = d1
  unfold Lib.checkN contB
  rw [if_pos rfl]
  by_cases h : l.length < 2 ∨ d1 < 128 ∨ 191 < d1
  · rw [if_pos h, if_neg]
    simp
    omega
  · rw [if_neg h, if_pos]
    simp
    omega

theorem valid_no (l : List UInt8) (hne : l ≠ []) (c : Nat) (hc : (l.getD 0 0).toNat = c) (h : 128 ≤ c) (h2 : c < 194 ∨ 244 < c) : Lib.validD l = false := by
  have h256 := (l.getD 0 0).toNat_lt
  rw [Lib.validD_lead l hne (by omega), hc]
  have f1 : Lib.checkN l.length (l.getD 1 0).toNat (l.getD 2 0).toNat (l.getD 3 0).toNat (Lib.firstT c % 8) (Lib.accLo (Lib.firstT c / 16)) (Lib.accHi (Lib.firstT c / 16)) = none := by
    rcases h2 with h2 | h2
    · simp [Lib.firstT, Lib.checkN, show ¬ c < 128 by omega, h2]
    · simp [Lib.firstT, Lib.checkN, show ¬ c < 128 by omega, show ¬ c < 194 by omega, show ¬ c < 224 by omega, show ¬ c = 224 by omega, show ¬ c < 237 by omega, show ¬ c = 237 by omega, show ¬ c < 240 by omega, show ¬ c = 240 by omega, show ¬ c < 244 by omega, show ¬ c = 244 by omega]
  rw [f1]

theorem valid_2 (l : List UInt8) (hne : l ≠ []) (c : Nat) (hc : (l.getD 0 0).toNat = c) (h1 : 224 ≤ c) (h2 : c ≤ 239) :
    Lib.validD l = if 2 < l.length ∧ contB (l.getD 1 0).toNat = true ∧ contB (l.getD 2 0).toNat = true ∧ badC (((c - 224) * 64 + (l.getD 1 0).toNat - 128) * 64 + (l.getD 2 0).toNat - 128) 2048 = false then Lib.validD (l.drop 3) else false := by
  rw [Lib.validD_lead l hne (by omega), hc]
  generalize (l.getD 1 0).toNat = d1
  generalize (l.getD 2 0).toNat = d2
  obtain ⟨lo, hi, f1, f2, f3, hk⟩ : ∃ lo hi, Lib.firstT c % 8 = 3 ∧ Lib.accLo (Lib.firstT c / 16) = lo ∧ Lib.accHi (Lib.firstT c / 16) = hi ∧ ((c = 224 ∧ lo = 160 ∧ hi = 191) ∨ (c = 237 ∧ lo = 128 ∧ hi = 159) ∨ (c ≠ 224 ∧ c ≠ 237 ∧ lo = 128 ∧ hi = 191)) := by
    by_cases q1 : c = 224
    · subst q1; exact ⟨160, 191, by decide, by decide, by decide, .inl ⟨rfl, rfl, rfl⟩⟩
    · by_cases q2 : c = 237
      · subst q2; exact ⟨128, 159, by decide, by decide, by decide, .inr (.inl ⟨rfl, rfl, rfl⟩)⟩
      · refine ⟨128, 191, ?_, ?_, ?_, .inr (.inr ⟨q1, q2, rfl, rfl⟩)⟩ <;>
        · by_cases q3 : c < 237
          · simp [Lib.firstT, Lib.accLo, Lib.accHi, show ¬ c < 128 by omega, show ¬ c < 194 by omega, show ¬ c < 224 by omega, q1, q3]
          · simp [Lib.firstT, Lib.accLo, Lib.accHi, show ¬ c < 128 by omega, show ¬ c < 194 by omega, show ¬ c < 224 by omega, q1, q2, q3, show c < 240 by omega]
  rw [f1, f2, f3]
  unfold Lib.checkN contB badC
  rw [if_neg (by decide), if_pos rfl]
  clear f1 f2 f3 hne hc
  by_cases h : l.length < 3 ∨ d1 < lo ∨ hi < d1 ∨ d2 < 128 ∨ 191 < d2
  · rw [if_pos h, if_neg]
    simp
    omega
  · rw [if_neg h, if_pos]
    simp
    omega

theorem valid_3 (l : List UInt8) (hne : l ≠ []) (c : Nat) (hc : (l.getD 0 0).toNat = c) (h1 : 240 ≤ c) (h2 : c ≤ 244) :
    Lib.validD l = if 3 < l.length ∧ contB (l.getD 1 0).toNat = true ∧ contB (l.getD 2 0).toNat = true ∧ contB (l.getD 3 0).toNat = true ∧ badC ((((c - 240) * 64 + (l.getD 1 0).toNat - 128) * 64 + (l.getD 2 0).toNat - 128) * 64 + (l.getD 3 0).toNat - 128) 65536 = false then Lib.validD (l.drop 4) else false := by
  rw [Lib.validD_lead l hne (by omega), hc]
  generalize (l.getD 1 0).toNat = d1
  generalize (l.getD 2 0).toNat = d2
  generalize (l.getD 3 0).toNat = d3
  obtain ⟨lo, hi, f1, f2, f3, hk⟩ : ∃ lo hi, Lib.firstT c % 8 = 4 ∧ Lib.accLo (Lib.firstT c / 16) = lo ∧ Lib.accHi (Lib.firstT c / 16) = hi ∧ ((c = 240 ∧ lo = 144 ∧ hi = 191) ∨ (c = 244 ∧ lo = 128 ∧ hi = 143) ∨ (c ≠ 240 ∧ c ≠ 244 ∧ lo = 128 ∧ hi = 191)) := by
    rcases (show c = 240 ∨ c = 241 ∨ c = 242 ∨ c = 243 ∨ c = 244 by omega) with rfl | rfl | rfl | rfl | rfl
    · exact ⟨144, 191, by decide, by decide, by decide, .inl ⟨rfl, rfl, rfl⟩⟩
    · exact ⟨128, 191, by decide, by decide, by decide, .inr (.inr ⟨by decide, by decide, rfl, rfl⟩)⟩
    · exact ⟨128, 191, by decide, by decide, by decide, .inr (.inr ⟨by decide, by decide, rfl, rfl⟩)⟩
    · exact ⟨128, 191, by decide, by decide, by decide, .inr (.inr ⟨by decide, by decide, rfl, rfl⟩)⟩
    · exact ⟨128, 143, by decide, by decide, by decide, .inr (.inl ⟨rfl, rfl, rfl⟩)⟩
  rw [f1, f2, f3]
  unfold Lib.checkN contB badC
  rw [if_neg (by decide), if_neg (by decide), if_pos rfl]
  clear f1 f2 f3 hne hc
  by_cases h : l.length < 4 ∨ d1 < lo ∨ hi < d1 ∨ d2 < 128 ∨ 191 < d2 ∨ d3 < 128 ∨ 191 < d3
  · rw [if_pos h, if_neg]
    simp
    omega
  · rw [if_neg h, if_pos]
    simp
    omega

end Go.Proofs.YtdjaofbjmnmlbaaDoor
