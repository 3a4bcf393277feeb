/- The document's Utf8, for every text: it says what utf8.ValidString says. Conditions: the text is no longer than any is. -/
import Derived.Test.YtdjaofbjmnmlbaaDoorRC
import Derived.Test.YtdjaofbjmnmlbaaDoorVGa
import Derived.Deep.RegionHeld3
import Derived.Deep.DrawnRows
import Derived.Deep.LoopGhost
namespace Go.Proofs.YtdjaofbjmnmlbaaDoor
open Go.RowKit

/-- What the outer loop knows. -/
def OInv (s : ByteArray) (vi : Value) : Prop :=
  ∃ i : Nat, i ≤ s.size ∧ vi = .int .i64 i ∧ Lib.validD s.data.toList = Lib.validD (s.data.toList.drop i)

def dB (s : ByteArray) (i k : Nat) : Nat := (s.data.toList.getD (i + k) 0).toNat
/-- The number so far, k bytes behind the lead. -/
def part (s : ByteArray) (i base : Nat) : Nat → Nat
  | 0 => dB s i 0 - base
  | k + 1 => part s i base k * 64 + dB s i (k + 1) - 128
def contsB (s : ByteArray) (i : Nat) : Nat → Bool
  | 0 => true
  | k + 1 => contsB s i k && contB (dB s i (k + 1))
theorem contsB_mono (s : ByteArray) (i : Nat) : ∀ n k, k ≤ n → contsB s i n = true → contsB s i k = true
  | 0, k, h, _ => by obtain rfl : k = 0 := by omega
                     rfl
  | n + 1, k, h, hc => by
    by_cases e : k = n + 1
    · rw [e]; exact hc
    · simp only [contsB, Bool.and_eq_true] at hc
      exact contsB_mono s i n k (by omega) hc.1
theorem contsB_bad (s : ByteArray) (i n k : Nat) (h1 : 1 ≤ k) (h2 : k ≤ n) (hb : contB (dB s i k) = false) : contsB s i n = false := by
  cases h : contsB s i n
  · rfl
  · have := contsB_mono s i n k h2 h
    obtain ⟨j, rfl⟩ : ∃ j, k = j + 1 := ⟨k - 1, by omega⟩
    simp only [contsB, Bool.and_eq_true] at this
    rw [hb] at this
    exact absurd this.2 (by decide)
theorem part_lt (s : ByteArray) (i base : Nat) (h0 : part s i base 0 < 32) (k : Nat) : contsB s i k = true → part s i base k < 32 * 64 ^ k := by
  induction k with
  | zero =>
    intro _
    have e : 32 * 64 ^ 0 = 32 := by decide
    rw [e]; exact h0
  | succ k ih =>
    intro h
    simp only [contsB, Bool.and_eq_true] at h
    have ih2 := ih h.1
    have hd := h.2
    clear h ih h0
    unfold contB at hd
    simp only [Bool.and_eq_true, decide_eq_true_eq] at hd
    have e : 32 * 64 ^ (k + 1) = 32 * 64 ^ k * 64 := by rw [Nat.pow_succ, Nat.mul_assoc]
    rw [e]
    obtain ⟨P, hP⟩ : ∃ P, 32 * 64 ^ k = P := ⟨_, rfl⟩
    rw [hP] at ih2 ⊢
    clear hP e
    have e2 : part s i base (k + 1) = part s i base k * 64 + dB s i (k + 1) - 128 := rfl
    rw [e2]
    omega
theorem part_small (s : ByteArray) (i base : Nat) (h0 : part s i base 0 < 32) (k : Nat) (hk : k ≤ 3) (h : contsB s i k = true) : part s i base k < 10000000 := by
  have h1 := part_lt s i base h0 k h
  have h2 : 32 * 64 ^ k ≤ 8388608 := by
    rcases (show k = 0 ∨ k = 1 ∨ k = 2 ∨ k = 3 by omega) with rfl | rfl | rfl | rfl <;> decide
  obtain ⟨P, hP⟩ : ∃ P, 32 * 64 ^ k = P := ⟨_, rfl⟩
  rw [hP] at h1 h2
  omega
theorem part_next {s : ByteArray} {i base k p d : Nat} (hk : 1 ≤ k) (hp : p = part s i base (k - 1)) (hc : contsB s i (k - 1) = true) (hd : dB s i k = d) (h1 : 128 ≤ d) (h2 : d ≤ 191) : part s i base k = p * 64 + d - 128 ∧ contsB s i k = true := by
  obtain ⟨j, rfl⟩ : ∃ j, k = j + 1 := ⟨k - 1, by omega⟩
  have e : j + 1 - 1 = j := by omega
  rw [e] at hp hc
  refine ⟨?_, ?_⟩
  · show part s i base j * 64 + dB s i (j + 1) - 128 = _
    rw [← hp, hd]
  · show (contsB s i j && contB (dB s i (j + 1))) = true
    rw [hc, hd]
    unfold contB
    simp
    omega
theorem drop_getD (s : ByteArray) (i k : Nat) : (s.data.toList.drop i).getD k 0 = s.data.toList.getD (i + k) 0 := by
  simp [List.getD_eq_getElem?_getD]
theorem drop_ne (s : ByteArray) (i : Nat) (h : i < s.size) : s.data.toList.drop i ≠ [] := by
  intro e
  have := congrArg List.length e
  have h2 : s.data.toList.length = s.size := rfl
  simp at this
  omega
theorem drop_len (s : ByteArray) (i : Nat) : (s.data.toList.drop i).length = s.size - i := by simp
theorem getD_s (s : ByteArray) (i : Nat) (h : i < s.size) : s.data.toList.getD i 0 = s[i] := by
  rw [List.getD_eq_getElem?_getD, List.getElem?_eq_getElem (show i < s.data.toList.length from h)]
  rfl

theorem dB_s (s : ByteArray) (i k : Nat) (h : i + k < s.size) : dB s i k = s[i + k].toNat := by
  unfold dB
  rw [getD_s s (i + k) h]
theorem dB_drop (s : ByteArray) (i k : Nat) : ((s.data.toList.drop i).getD k 0).toNat = dB s i k := by unfold dB; rw [drop_getD]
/-- What validD says at a lead byte that n bytes follow. -/
def Lead (s : ByteArray) (i n base least : Nat) : Prop :=
  Lib.validD s.data.toList = if i + n < s.size ∧ contsB s i n = true ∧ badC (part s i base n) least = false then Lib.validD (s.data.toList.drop (i + (n + 1))) else false
theorem if_iff {p q : Prop} [Decidable p] [Decidable q] {a b : Bool} (h : p ↔ q) : (if p then a else b) = if q then a else b := by
  by_cases hp : p
  · rw [if_pos hp, if_pos (h.1 hp)]
  · rw [if_neg hp, if_neg (fun hq => hp (h.2 hq))]
theorem lead_1 (s : ByteArray) (i : Nat) (hi : i < s.size) (hv : Lib.validD s.data.toList = Lib.validD (s.data.toList.drop i)) (h1 : 194 ≤ dB s i 0) (h2 : dB s i 0 ≤ 223) : Lead s i 1 192 128 := by
  unfold Lead
  rw [hv, valid_1 _ (drop_ne s i hi) _ (dB_drop s i 0) h1 h2, dB_drop, drop_len, List.drop_drop]
  refine if_iff ?_
  unfold contsB contsB badC contB part part
  simp
  omega
theorem lead_2 (s : ByteArray) (i : Nat) (hi : i < s.size) (hv : Lib.validD s.data.toList = Lib.validD (s.data.toList.drop i)) (h1 : 224 ≤ dB s i 0) (h2 : dB s i 0 ≤ 239) : Lead s i 2 224 2048 := by
  unfold Lead
  rw [hv, valid_2 _ (drop_ne s i hi) _ (dB_drop s i 0) h1 h2, dB_drop, dB_drop, drop_len, List.drop_drop]
  refine if_iff ?_
  unfold contsB contsB contsB part part part
  simp only [Bool.and_eq_true, true_and]
  constructor
  · rintro ⟨a, b, c, d⟩; exact ⟨by omega, ⟨b, c⟩, d⟩
  · rintro ⟨a, ⟨b, c⟩, d⟩; exact ⟨by omega, b, c, d⟩
theorem lead_3 (s : ByteArray) (i : Nat) (hi : i < s.size) (hv : Lib.validD s.data.toList = Lib.validD (s.data.toList.drop i)) (h1 : 240 ≤ dB s i 0) (h2 : dB s i 0 ≤ 244) : Lead s i 3 240 65536 := by
  unfold Lead
  rw [hv, valid_3 _ (drop_ne s i hi) _ (dB_drop s i 0) h1 h2, dB_drop, dB_drop, dB_drop, drop_len, List.drop_drop]
  refine if_iff ?_
  unfold contsB contsB contsB contsB part part part part
  simp only [Bool.and_eq_true, true_and]
  constructor
  · rintro ⟨a, b, c, d, e⟩; exact ⟨by omega, ⟨⟨b, c⟩, d⟩, e⟩
  · rintro ⟨a, ⟨⟨b, c⟩, d⟩, e⟩; exact ⟨by omega, b, c, d, e⟩

/-- What the inner loop knows. -/
def KInv (s : ByteArray) (i n base : Nat) (vc vk : Value) : Prop :=
  ∃ k p : Nat, 1 ≤ k ∧ k ≤ n + 1 ∧ vk = .int .i64 k ∧ vc = .int .i64 p ∧ p = part s i base (k - 1) ∧ p < 10000000 ∧ contsB s i (k - 1) = true

end Go.Proofs.YtdjaofbjmnmlbaaDoor
