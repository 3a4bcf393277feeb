/- Plain mathematics of numbers to the base 16: digits, their text, and the number of a text. No program in it. -/
import Derived.Below
import Derived.RowKit
namespace Go.Proofs.YtofkfafdodhmdaaGreatDoor
open Go.RowKit

theorem hid {p : Prop} (h : p) : Hid p := h
/-- A digit's byte. -/
def dg (d : Nat) : UInt8 := if d < 10 then UInt8.ofNat (48 + d) else UInt8.ofNat (87 + d)
/-- The last k digits of u, the highest first. -/
def fixW : Nat → Nat → List UInt8
  | 0, _ => []
  | k + 1, u => fixW k (u / 16) ++ [dg (u % 16)]

theorem fixW_len (k u : Nat) : (fixW k u).length = k := by
  induction k generalizing u with
  | zero => rfl
  | succ k ih => simp [fixW, ih]

theorem fixW_cons (k u : Nat) : fixW (k + 1) u = dg (u / 16 ^ k % 16) :: fixW k u := by
  induction k generalizing u with
  | zero => simp [fixW]
  | succ k ih =>
    rw [fixW, ih (u / 16), fixW]
    simp only [List.cons_append, List.cons.injEq, and_true]
    rw [Nat.div_div_eq_div_mul, Nat.pow_succ, Nat.mul_comm]

/-- How many digits u has, at most 16 of them looked for. -/
def hexLen : Nat → Nat → Nat
  | 0, _ => 1
  | k + 1, u => if u < 16 then 1 else hexLen k (u / 16) + 1

def hexText (u : Nat) : List UInt8 := fixW (hexLen 15 u) u

theorem hexLen_pos (k u : Nat) : 1 ≤ hexLen k u := by cases k <;> simp [hexLen]; split <;> omega
theorem hexLen_le (k u : Nat) : hexLen k u ≤ k + 1 := by
  induction k generalizing u with
  | zero => simp [hexLen]
  | succ k ih => simp only [hexLen]; have := ih (u / 16); split <;> omega

/-- Where a loop that takes digits from below ends: j digits taken, what is left is one digit: it's all. -/
theorem hexLen_of (k : Nat) : ∀ (u j : Nat), j ≤ k → u / 16 ^ j < 16 → (j = 0 ∨ 16 ≤ u / 16 ^ (j - 1)) → hexLen k u = j + 1 := by
  induction k with
  | zero =>
    intro u j hj _ _
    obtain rfl : j = 0 := Nat.le_zero.1 hj
    simp [hexLen]
  | succ k ih =>
    intro u j hj h1 h2
    simp only [hexLen]
    by_cases hj0 : j = 0
    · subst hj0
      rw [if_pos (by simpa using h1)]
    · obtain ⟨i, rfl⟩ : ∃ i, j = i + 1 := ⟨j - 1, by omega⟩
      have h3 : 16 ≤ u / 16 ^ i := by rcases h2 with h2 | h2; · omega
                                      · simpa using h2
      have h4 : 16 ≤ u := Nat.le_trans h3 (Nat.div_le_self _ _)
      rw [if_neg (by omega)]
      have e : ∀ m, u / 16 / 16 ^ m = u / 16 ^ (m + 1) := fun m => by rw [Nat.div_div_eq_div_mul, Nat.pow_succ, Nat.mul_comm]
      rw [ih (u / 16) i (by omega) (by rw [e]; exact h1)]
      by_cases hi : i = 0
      · exact Or.inl hi
      · refine Or.inr ?_
        rw [e, show i - 1 + 1 = i by omega]
        exact h3

/-- Noughts ahead. -/
theorem fixW_zero (k u : Nat) (h : u < 16 ^ k) : ∀ m, fixW (m + k) u = List.replicate m (48 : UInt8) ++ fixW k u := by
  intro m
  induction m with
  | zero => simp
  | succ m ih =>
    have hz : u / 16 ^ (m + k) = 0 := Nat.div_eq_of_lt (Nat.lt_of_lt_of_le h (Nat.pow_le_pow_right (by omega) (by omega)))
    rw [show m + 1 + k = (m + k) + 1 by omega, fixW_cons, hz, ih, List.replicate_succ]
    rfl

theorem hexLen_bound (k : Nat) : ∀ u, u < 16 ^ (k + 1) → u < 16 ^ hexLen k u := by
  induction k with
  | zero => intro u h; simpa [hexLen] using h
  | succ k ih =>
    intro u h
    simp only [hexLen]
    split
    · simpa using by assumption
    · rw [Nat.pow_succ]
      have h2 : u / 16 < 16 ^ (k + 1) := by rw [Nat.pow_succ] at h; omega
      have h1 := ih (u / 16) h2
      omega

theorem pad16 (u : Nat) (h : u < 18446744073709551616) : List.replicate (16 - (hexText u).length) (48 : UInt8) ++ hexText u = fixW 16 u := by
  unfold hexText
  rw [fixW_len]
  have h1 := hexLen_le 15 u
  have h2 := hexLen_bound 15 u h
  rw [← fixW_zero _ _ h2, show 16 - hexLen 15 u + hexLen 15 u = 16 by omega]

/-- The text that FormatUint's loop reads its digits from. -/
def digitsText : ByteArray := ⟨#[48, 49, 50, 51, 52, 53, 54, 55, 56, 57, 97, 98, 99, 100, 101, 102, 103, 104, 105, 106, 107, 108, 109, 110, 111, 112, 113, 114, 115, 116, 117, 118, 119, 120, 121, 122]⟩
theorem digitsText_dg : ∀ d : Nat, d < 16 → digitsText.data[d]? = some (dg d) := by decide +kernel

/-- What reading digits to the base 16 comes to: a number, a wrong byte, or too great a number. -/
inductive HexR where
  | ok (n : Nat)
  | syn
  | rng

/-- A byte that is no capital letter any more. -/
def lowN (c : Nat) : Nat := c ||| 32
def hexD (c : UInt8) : Option Nat :=
  if 48 ≤ c.toNat ∧ c.toNat ≤ 57 then some (c.toNat - 48) else if 97 ≤ lowN c.toNat ∧ lowN c.toNat ≤ 122 then some (lowN c.toNat - 87) else none
def hexGo : List UInt8 → Nat → HexR
  | [], n => .ok n
  | c :: cs, n => match hexD c with
    | none => .syn
    | some d => if 16 ≤ d then .syn else if 1152921504606846976 ≤ n then .rng else hexGo cs (n * 16 + d)

theorem lowN_le : ∀ c : Nat, c < 256 → c ≤ lowN c ∧ lowN c ≤ c + 32 ∧ lowN c < 256 := by decide +kernel
theorem lowN_95 : lowN 95 = 127 := by decide

theorem hexGo_drop (l : List UInt8) (k n : Nat) (h : k < l.length) : hexGo (l.drop k) n = (match hexD (l.getD k 0) with
    | none => .syn
    | some d => if 16 ≤ d then .syn else if 1152921504606846976 ≤ n then .rng else hexGo (l.drop (k + 1)) (n * 16 + d)) := by
  rw [List.drop_eq_getElem_cons h]
  simp only [hexGo, List.getD_eq_getElem?_getD, List.getElem?_eq_getElem h, Option.getD_some]

/-- Digits that are written are read. -/
theorem hexD_dg : ∀ d : Nat, d < 16 → hexD (dg d) = some d := by decide +kernel
theorem hexGo_app (a : List UInt8) (b : List UInt8) (n m : Nat) (h : hexGo a n = .ok m) : hexGo (a ++ b) n = hexGo b m := by
  induction a generalizing n with
  | nil => simp only [hexGo, HexR.ok.injEq] at h; subst h; rfl
  | cons c cs ih =>
    simp only [List.cons_append, hexGo] at h ⊢
    cases hc : hexD c with
    | none => rw [hc] at h; simp at h
    | some d =>
      rw [hc] at h
      simp only at h ⊢
      by_cases h1 : 16 ≤ d
      · rw [if_pos h1] at h; cases h
      · rw [if_neg h1] at h ⊢
        by_cases h2 : 1152921504606846976 ≤ n
        · rw [if_pos h2] at h; cases h
        · rw [if_neg h2] at h ⊢
          exact ih _ h
theorem hexGo_fix (k : Nat) : ∀ u, u < 16 ^ k → k ≤ 16 → hexGo (fixW k u) 0 = .ok u := by
  induction k with
  | zero => intro u h _; have : u = 0 := by simpa using h
            subst this; rfl
  | succ k ih =>
    intro u h hk
    have h2 : u / 16 < 16 ^ k := by rw [Nat.pow_succ] at h; omega
    have h3 : 16 ^ k ≤ 16 ^ 15 := Nat.pow_le_pow_right (by omega) (by omega)
    rw [fixW, hexGo_app _ _ _ _ (ih (u / 16) h2 (by omega))]
    simp only [hexGo, hexD_dg (u % 16) (by omega)]
    rw [if_neg (by omega), if_neg (by omega)]
    congr 1
    omega

end Go.Proofs.YtofkfafdodhmdaaGreatDoor
