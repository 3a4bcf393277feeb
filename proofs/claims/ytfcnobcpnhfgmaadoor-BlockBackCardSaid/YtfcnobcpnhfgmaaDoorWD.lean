/- Plain mathematics of the order of values: it is one, and level values that are right are one. No program in it. Conditions: the numbers are of 64 bits. -/
import Derived.Test.YtfcnobcpnhfgmaaDoorVM
import Derived.Test.YtfcnobcpnhfgmaaDoorFN
namespace Go.Proofs.YtfcnobcpnhfgmaaDoor
open Go.RowKit

theorem cmpB_self : ∀ l : List UInt8, Lib.compareBytes l l = 0
  | [] => rfl
  | a :: l => by unfold Lib.compareBytes; simp [cmpB_self l]
theorem cmpB_neg : ∀ l m : List UInt8, Lib.compareBytes l m = -Lib.compareBytes m l
  | [], [] => rfl
  | [], _ :: _ => rfl
  | _ :: _, [] => rfl
  | a :: l, b :: m => by
    unfold Lib.compareBytes
    have ih := cmpB_neg l m
    by_cases h1 : a < b
    · have h2 : ¬ b < a := fun h => by rw [UInt8.lt_iff_toNat_lt] at h h1; omega
      rw [if_pos h1, if_neg h2, if_pos h1]
    · rw [if_neg h1]
      by_cases h2 : b < a
      · rw [if_pos h2, if_pos h2]; rfl
      · rw [if_neg h2, if_neg h2, if_neg h1]; exact ih
theorem cmpB_zero : ∀ l m : List UInt8, Lib.compareBytes l m = 0 → l = m
  | [], [], _ => rfl
  | [], _ :: _, h => by cases h
  | _ :: _, [], h => by cases h
  | a :: l, b :: m, h => by
    unfold Lib.compareBytes at h
    by_cases h1 : a < b
    · rw [if_pos h1] at h; cases h
    · rw [if_neg h1] at h
      by_cases h2 : b < a
      · rw [if_pos h2] at h; cases h
      · rw [if_neg h2] at h
        have e : a = b := UInt8.toNat_inj.1 (by rw [UInt8.lt_iff_toNat_lt] at h1 h2; omega)
        rw [e, cmpB_zero l m h]
theorem cmpB_trans : ∀ l m n : List UInt8, Lib.compareBytes l m ≤ 0 → Lib.compareBytes m n ≤ 0 → Lib.compareBytes l n ≤ 0
  | [], _, [], _, _ => by decide
  | [], _, _ :: _, _, _ => by unfold Lib.compareBytes; decide
  | a :: l, [], n, h, _ => by unfold Lib.compareBytes at h; omega
  | a :: l, b :: m, [], _, h => by unfold Lib.compareBytes at h; omega
  | a :: l, b :: m, c :: n, h1, h2 => by
    unfold Lib.compareBytes at h1 h2 ⊢
    have ih := cmpB_trans l m n
    simp only [UInt8.lt_iff_toNat_lt] at *
    by_cases x1 : a.toNat < b.toNat
    · by_cases y1 : b.toNat < c.toNat
      · rw [if_pos (by omega)]; decide
      · rw [if_neg y1] at h2
        by_cases y2 : c.toNat < b.toNat
        · rw [if_pos y2] at h2; omega
        · rw [if_pos (by omega)]; decide
    · rw [if_neg x1] at h1
      by_cases x2 : b.toNat < a.toNat
      · rw [if_pos x2] at h1; omega
      · rw [if_neg x2] at h1
        by_cases y1 : b.toNat < c.toNat
        · rw [if_pos (by omega)]; decide
        · rw [if_neg y1] at h2
          by_cases y2 : c.toNat < b.toNat
          · rw [if_pos y2] at h2; omega
          · rw [if_neg y2] at h2
            rw [if_neg (by omega), if_neg (by omega)]
            exact ih h1 h2

/-- A value's number in the order: of a float its place, else itself. -/
def vKey (k n : Int) : Int := if k = 5 then rankI (canonI n) else n
theorem vNum_key (k a b : Int) : vNum k a b = cmpI (vKey k a) (vKey k b) := by
  unfold vNum vKey ordI
  by_cases h : k = 5
  · rw [if_pos h, if_pos h, if_pos h]
  · rw [if_neg h, if_neg h, if_neg h]

theorem vOrd_self (k n : Int) (s : List UInt8) : vOrd k n s k n s = 0 := by
  unfold vOrd
  rw [if_pos rfl, vNum_key, cmpI_self, if_pos rfl, cmpB_self]
theorem vOrd_neg (k1 n1 : Int) (s1 : List UInt8) (k2 n2 : Int) (s2 : List UInt8) : vOrd k1 n1 s1 k2 n2 s2 = -vOrd k2 n2 s2 k1 n1 s1 := by
  unfold vOrd
  by_cases h : k1 = k2
  · subst h
    rw [if_pos rfl, if_pos rfl, vNum_key, vNum_key, cmpI_neg (vKey k1 n2) (vKey k1 n1)]
    by_cases h0 : cmpI (vKey k1 n1) (vKey k1 n2) = 0
    · rw [if_pos h0, if_pos (by omega)]; exact cmpB_neg s1 s2
    · rw [if_neg h0, if_neg (by omega)]; omega
  · rw [if_neg h, if_neg (fun e => h e.symm)]
    exact cmpI_neg k1 k2
theorem cmpI_le {a b : Int} : cmpI a b ≤ 0 ↔ a ≤ b := by unfold cmpI; split <;> (try split) <;> omega
theorem cmpI_z {a b : Int} : cmpI a b = 0 ↔ a = b := by unfold cmpI; split <;> (try split) <;> omega
theorem vOrd_le (k1 n1 : Int) (s1 : List UInt8) (k2 n2 : Int) (s2 : List UInt8) : vOrd k1 n1 s1 k2 n2 s2 ≤ 0 ↔ k1 < k2 ∨ (k1 = k2 ∧ (vKey k1 n1 < vKey k2 n2 ∨ (vKey k1 n1 = vKey k2 n2 ∧ Lib.compareBytes s1 s2 ≤ 0))) := by
  unfold vOrd
  by_cases h : k1 = k2
  · subst h
    rw [if_pos rfl, vNum_key]
    by_cases h0 : cmpI (vKey k1 n1) (vKey k1 n2) = 0
    · rw [if_pos h0]
      have := cmpI_z.1 h0
      omega
    · rw [if_neg h0, cmpI_le]
      have : ¬ vKey k1 n1 = vKey k1 n2 := fun e => h0 (cmpI_z.2 e)
      omega
  · rw [if_neg h, cmpI_le]
    omega
theorem vOrd_trans {k1 n1 : Int} {s1 : List UInt8} {k2 n2 : Int} {s2 : List UInt8} {k3 n3 : Int} {s3 : List UInt8} (h1 : vOrd k1 n1 s1 k2 n2 s2 ≤ 0) (h2 : vOrd k2 n2 s2 k3 n3 s3 ≤ 0) : vOrd k1 n1 s1 k3 n3 s3 ≤ 0 := by
  rw [vOrd_le] at *
  have := cmpB_trans s1 s2 s3
  rcases h1 with h1 | ⟨e1, h1 | ⟨f1, h1⟩⟩ <;> rcases h2 with h2 | ⟨e2, h2 | ⟨f2, h2⟩⟩
  · exact Or.inl (by omega)
  · exact Or.inl (by omega)
  · exact Or.inl (by omega)
  · exact Or.inl (by omega)
  · exact Or.inr ⟨by omega, Or.inl (by omega)⟩
  · exact Or.inr ⟨by omega, Or.inl (by omega)⟩
  · exact Or.inl (by omega)
  · exact Or.inr ⟨by omega, Or.inl (by omega)⟩
  · exact Or.inr ⟨by omega, Or.inr ⟨by omega, this h1 h2⟩⟩

theorem vKey_one {k n1 n2 : Int} {s1 s2 : List UInt8} (i1 : inI n1) (i2 : inI n2) (h1 : vRight k n1 s1 = true) (h2 : vRight k n2 s2 = true) (h : vKey k n1 = vKey k n2) : n1 = n2 := by
  unfold vKey at h
  by_cases h5 : k = 5
  · subst h5
    rw [if_pos rfl, if_pos rfl] at h
    have r1 : rightB n1 = true := by simp [vRight] at h1; exact h1.2
    have r2 : rightB n2 = true := by simp [vRight] at h2; exact h2.2
    rw [right_canon r1, right_canon r2] at h
    have := congrArg unrankI h
    rwa [unrank_rank i1, unrank_rank i2] at this
  · rwa [if_neg h5, if_neg h5] at h
/-- Right values are level just if they are one. -/
theorem vOrd_one {k1 n1 : Int} {s1 : List UInt8} {k2 n2 : Int} {s2 : List UInt8} (i1 : inI n1) (i2 : inI n2) (h1 : vRight k1 n1 s1 = true) (h2 : vRight k2 n2 s2 = true) : vOrd k1 n1 s1 k2 n2 s2 = 0 ↔ k1 = k2 ∧ n1 = n2 ∧ s1 = s2 := by
  constructor
  · intro h
    unfold vOrd at h
    by_cases hk : k1 = k2
    · subst hk
      rw [if_pos rfl, vNum_key] at h
      by_cases h0 : cmpI (vKey k1 n1) (vKey k1 n2) = 0
      · rw [if_pos h0] at h
        exact ⟨rfl, vKey_one i1 i2 h1 h2 (cmpI_z.1 h0), cmpB_zero _ _ h⟩
      · rw [if_neg h0] at h
        exact absurd h h0
    · rw [if_neg hk] at h
      exact absurd (cmpI_z.1 h) hk
  · rintro ⟨rfl, rfl, rfl⟩
    exact vOrd_self _ _ _

theorem enc_two {k n : Int} {s : List UInt8} (h : vRight k n s = true) : 2 ≤ (vEnc k n s).length := by
  unfold vEnc vBody
  rcases right_kind h with rfl | rfl | rfl | rfl | rfl <;> simp [byW_len]

end Go.Proofs.YtfcnobcpnhfgmaaDoor
