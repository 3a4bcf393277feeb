/- Several texts in one: RC VGa RD RE FS RF. Conditions: as each theorem names them. -/
import Derived.Test.YtgfkobfkncpmoaaDoorP2
import Derived.Lib.ValidLaws
import Derived.Test.YtgfkobfkncpmoaaDoorP3
import Derived.Deep.RegionHeld3
import Derived.Deep.DrawnRows
import Derived.Deep.LoopGhost
import Derived.Test.YtgfkobfkncpmoaaDoorP1
/- The document's Utf8, for every text. Conditions: the text is no longer than any is. -/
namespace Go.Proofs.YtgfkobfkncpmoaaDoor
open Go.RowKit

/-- How many bytes follow the lead byte c; what of it counts; the least number. -/
def leadN (c : Nat) : Nat := if c < 194 then 0 else if c < 224 then 1 else if c < 240 then 2 else if c < 245 then 3 else 0
def contB (d : Nat) : Bool := decide (128 ≤ d) && decide (d ≤ 191)
def badC (c least : Nat) : Bool := decide (c < least) || decide (1114111 < c) || (decide (55296 ≤ c) && decide (c ≤ 57343))

theorem valid_1 (l : List UInt8) (hne : l ≠ []) (c : Nat) (hc : (l.getD 0 0).toNat = c) (h1 : 194 ≤ c) (h2 : c ≤ 223) :
    Lib.validD l = if 1 < l.length ∧ contB (l.getD 1 0).toNat = true then Lib.validD (l.drop 2) else false := by
  rw [Lib.validD_lead l hne (by omega), hc]
  have f1 : Lib.firstT c % 8 = 2 := by simp [Lib.firstT, show ¬ c < 128 by omega, show ¬ c < 194 by omega, show c < 224 by omega]
  have f2 : Lib.accLo (Lib.firstT c / 16) = 128 := by simp [Lib.firstT, Lib.accLo, show ¬ c < 128 by omega, show ¬ c < 194 by omega, show c < 224 by omega]
  have f3 : Lib.accHi (Lib.firstT c / 16) = 191 := by simp [Lib.firstT, Lib.accHi, show ¬ c < 128 by omega, show ¬ c < 194 by omega, show c < 224 by omega]
  rw [f1, f2, f3]
  generalize (l.getD 1 0).toNat = d1
  unfold Lib.checkN contB
  rw [if_pos rfl]
  by_cases h : l.length < 2 ∨ d1 < 128 ∨ 191 < d1
  · rw [if_pos h, if_neg]
    simp
    omega
  · rw [if_neg h, if_pos]
    simp
    omega

theorem valid_no (l : List UInt8) (hne : l ≠ []) (c : Nat) (hc : (l.getD 0 0).toNat = c) (h : 128 ≤ c) (h2 : c < 194 ∨ 244 < c) : Lib.validD l = false := by
  have h256 := (l.getD 0 0).toNat_lt
  rw [Lib.validD_lead l hne (by omega), hc]
  have f1 : Lib.checkN l.length (l.getD 1 0).toNat (l.getD 2 0).toNat (l.getD 3 0).toNat (Lib.firstT c % 8) (Lib.accLo (Lib.firstT c / 16)) (Lib.accHi (Lib.firstT c / 16)) = none := by
    rcases h2 with h2 | h2
    · simp [Lib.firstT, Lib.checkN, show ¬ c < 128 by omega, h2]
    · simp [Lib.firstT, Lib.checkN, show ¬ c < 128 by omega, show ¬ c < 194 by omega, show ¬ c < 224 by omega, show ¬ c = 224 by omega, show ¬ c < 237 by omega, show ¬ c = 237 by omega, show ¬ c < 240 by omega, show ¬ c = 240 by omega, show ¬ c < 244 by omega, show ¬ c = 244 by omega]
  rw [f1]

theorem valid_2 (l : List UInt8) (hne : l ≠ []) (c : Nat) (hc : (l.getD 0 0).toNat = c) (h1 : 224 ≤ c) (h2 : c ≤ 239) :
    Lib.validD l = if 2 < l.length ∧ contB (l.getD 1 0).toNat = true ∧ contB (l.getD 2 0).toNat = true ∧ badC (((c - 224) * 64 + (l.getD 1 0).toNat - 128) * 64 + (l.getD 2 0).toNat - 128) 2048 = false then Lib.validD (l.drop 3) else false := by
  rw [Lib.validD_lead l hne (by omega), hc]
  generalize (l.getD 1 0).toNat = d1
  generalize (l.getD 2 0).toNat = d2
  obtain ⟨lo, hi, f1, f2, f3, hk⟩ : ∃ lo hi, Lib.firstT c % 8 = 3 ∧ Lib.accLo (Lib.firstT c / 16) = lo ∧ Lib.accHi (Lib.firstT c / 16) = hi ∧ ((c = 224 ∧ lo = 160 ∧ hi = 191) ∨ (c = 237 ∧ lo = 128 ∧ hi = 159) ∨ (c ≠ 224 ∧ c ≠ 237 ∧ lo = 128 ∧ hi = 191)) := by
    by_cases q1 : c = 224
    · subst q1; exact ⟨160, 191, by decide, by decide, by decide, .inl ⟨rfl, rfl, rfl⟩⟩
    · by_cases q2 : c = 237
      · subst q2; exact ⟨128, 159, by decide, by decide, by decide, .inr (.inl ⟨rfl, rfl, rfl⟩)⟩
      · refine ⟨128, 191, ?_, ?_, ?_, .inr (.inr ⟨q1, q2, rfl, rfl⟩)⟩ <;>
        · by_cases q3 : c < 237
          · simp [Lib.firstT, Lib.accLo, Lib.accHi, show ¬ c < 128 by omega, show ¬ c < 194 by omega, show ¬ c < 224 by omega, q1, q3]
          · simp [Lib.firstT, Lib.accLo, Lib.accHi, show ¬ c < 128 by omega, show ¬ c < 194 by omega, show ¬ c < 224 by omega, q1, q2, q3, show c < 240 by omega]
  rw [f1, f2, f3]
  unfold Lib.checkN contB badC
  rw [if_neg (by decide), if_pos rfl]
  clear f1 f2 f3 hne hc
  by_cases h : l.length < 3 ∨ d1 < lo ∨ hi < d1 ∨ d2 < 128 ∨ 191 < d2
  · rw [if_pos h, if_neg]
    simp
    omega
  · rw [if_neg h, if_pos]
    simp
    omega

theorem valid_3 (l : List UInt8) (hne : l ≠ []) (c : Nat) (hc : (l.getD 0 0).toNat = c) (h1 : 240 ≤ c) (h2 : c ≤ 244) :
    Lib.validD l = if 3 < l.length ∧ contB (l.getD 1 0).toNat = true ∧ contB (l.getD 2 0).toNat = true ∧ contB (l.getD 3 0).toNat = true ∧ badC ((((c - 240) * 64 + (l.getD 1 0).toNat - 128) * 64 + (l.getD 2 0).toNat - 128) * 64 + (l.getD 3 0).toNat - 128) 65536 = false then Lib.validD (l.drop 4) else false := by
  rw [Lib.validD_lead l hne (by omega), hc]
  generalize (l.getD 1 0).toNat = d1
  generalize (l.getD 2 0).toNat = d2
  generalize (l.getD 3 0).toNat = d3
  obtain ⟨lo, hi, f1, f2, f3, hk⟩ : ∃ lo hi, Lib.firstT c % 8 = 4 ∧ Lib.accLo (Lib.firstT c / 16) = lo ∧ Lib.accHi (Lib.firstT c / 16) = hi ∧ ((c = 240 ∧ lo = 144 ∧ hi = 191) ∨ (c = 244 ∧ lo = 128 ∧ hi = 143) ∨ (c ≠ 240 ∧ c ≠ 244 ∧ lo = 128 ∧ hi = 191)) := by
    rcases (show c = 240 ∨ c = 241 ∨ c = 242 ∨ c = 243 ∨ c = 244 by omega) with rfl | rfl | rfl | rfl | rfl
    · exact ⟨144, 191, by decide, by decide, by decide, .inl ⟨rfl, rfl, rfl⟩⟩
    · exact ⟨128, 191, by decide, by decide, by decide, .inr (.inr ⟨by decide, by decide, rfl, rfl⟩)⟩
    · exact ⟨128, 191, by decide, by decide, by decide, .inr (.inr ⟨by decide, by decide, rfl, rfl⟩)⟩
    · exact ⟨128, 191, by decide, by decide, by decide, .inr (.inr ⟨by decide, by decide, rfl, rfl⟩)⟩
    · exact ⟨128, 143, by decide, by decide, by decide, .inr (.inl ⟨rfl, rfl, rfl⟩)⟩
  rw [f1, f2, f3]
  unfold Lib.checkN contB badC
  rw [if_neg (by decide), if_neg (by decide), if_pos rfl]
  clear f1 f2 f3 hne hc
  by_cases h : l.length < 4 ∨ d1 < lo ∨ hi < d1 ∨ d2 < 128 ∨ 191 < d2 ∨ d3 < 128 ∨ 191 < d3
  · rw [if_pos h, if_neg]
    simp
    omega
  · rw [if_neg h, if_pos]
    simp
    omega

end Go.Proofs.YtgfkobfkncpmoaaDoor

/- A byte of a text. Conditions: none. -/
namespace Go.Proofs.YtgfkobfkncpmoaaDoor
open Go.RowKit

theorem string_at (s : ByteArray) (k : Nat) (h : k < s.size) (W : World) : (Instr.index 9 (.string s) (.int .i64 (k : Int))).run Tryd.prog W = .ok (.int .u8 (s[k].toNat : Int)) W := by
  have h0 : (0 : Int) ≤ (k : Int) := by omega
  simp [Instr.index, run_underlying Tryd.underlying9, asIntOf, h0, h]
theorem Row.drewN {w : World} {B : Nat} {v : Value} {l : List UInt8} (h : Row w B v l) (n : Nat) : Row (w.drewN n) B v l := h
end Go.Proofs.YtgfkobfkncpmoaaDoor

/- The document's Utf8, for every text: it says what utf8.ValidString says. Conditions: the text is no longer than any is. -/
namespace Go.Proofs.YtgfkobfkncpmoaaDoor
open Go.RowKit

/-- What the outer loop knows. -/
def OInv (s : ByteArray) (vi : Value) : Prop :=
  ∃ i : Nat, i ≤ s.size ∧ vi = .int .i64 i ∧ Lib.validD s.data.toList = Lib.validD (s.data.toList.drop i)

def dB (s : ByteArray) (i k : Nat) : Nat := (s.data.toList.getD (i + k) 0).toNat
/-- The number so far, k bytes behind the lead. -/
def part (s : ByteArray) (i base : Nat) : Nat → Nat
  | 0 => dB s i 0 - base
  | k + 1 => part s i base k * 64 + dB s i (k + 1) - 128
def contsB (s : ByteArray) (i : Nat) : Nat → Bool
  | 0 => true
  | k + 1 => contsB s i k && contB (dB s i (k + 1))
theorem contsB_mono (s : ByteArray) (i : Nat) : ∀ n k, k ≤ n → contsB s i n = true → contsB s i k = true
  | 0, k, h, _ => by obtain rfl : k = 0 := by omega
                     rfl
  | n + 1, k, h, hc => by
    by_cases e : k = n + 1
    · rw [e]; exact hc
    · simp only [contsB, Bool.and_eq_true] at hc
      exact contsB_mono s i n k (by omega) hc.1
theorem contsB_bad (s : ByteArray) (i n k : Nat) (h1 : 1 ≤ k) (h2 : k ≤ n) (hb : contB (dB s i k) = false) : contsB s i n = false := by
  cases h : contsB s i n
  · rfl
  · have := contsB_mono s i n k h2 h
    obtain ⟨j, rfl⟩ : ∃ j, k = j + 1 := ⟨k - 1, by omega⟩
    simp only [contsB, Bool.and_eq_true] at this
    rw [hb] at this
    exact absurd this.2 (by decide)
theorem part_lt (s : ByteArray) (i base : Nat) (h0 : part s i base 0 < 32) (k : Nat) : contsB s i k = true → part s i base k < 32 * 64 ^ k := by
  induction k with
  | zero =>
    intro _
    have e : 32 * 64 ^ 0 = 32 := by decide
    rw [e]; exact h0
  | succ k ih =>
    intro h
    simp only [contsB, Bool.and_eq_true] at h
    have ih2 := ih h.1
    have hd := h.2
    clear h ih h0
    unfold contB at hd
    simp only [Bool.and_eq_true, decide_eq_true_eq] at hd
    have e : 32 * 64 ^ (k + 1) = 32 * 64 ^ k * 64 := by rw [Nat.pow_succ, Nat.mul_assoc]
    rw [e]
    obtain ⟨P, hP⟩ : ∃ P, 32 * 64 ^ k = P := ⟨_, rfl⟩
    rw [hP] at ih2 ⊢
    clear hP e
    have e2 : part s i base (k + 1) = part s i base k * 64 + dB s i (k + 1) - 128 := rfl
    rw [e2]
    omega
theorem part_small (s : ByteArray) (i base : Nat) (h0 : part s i base 0 < 32) (k : Nat) (hk : k ≤ 3) (h : contsB s i k = true) : part s i base k < 10000000 := by
  have h1 := part_lt s i base h0 k h
  have h2 : 32 * 64 ^ k ≤ 8388608 := by
    rcases (show k = 0 ∨ k = 1 ∨ k = 2 ∨ k = 3 by omega) with rfl | rfl | rfl | rfl <;> decide
  obtain ⟨P, hP⟩ : ∃ P, 32 * 64 ^ k = P := ⟨_, rfl⟩
  rw [hP] at h1 h2
  omega
theorem part_next {s : ByteArray} {i base k p d : Nat} (hk : 1 ≤ k) (hp : p = part s i base (k - 1)) (hc : contsB s i (k - 1) = true) (hd : dB s i k = d) (h1 : 128 ≤ d) (h2 : d ≤ 191) : part s i base k = p * 64 + d - 128 ∧ contsB s i k = true := by
  obtain ⟨j, rfl⟩ : ∃ j, k = j + 1 := ⟨k - 1, by omega⟩
  have e : j + 1 - 1 = j := by omega
  rw [e] at hp hc
  refine ⟨?_, ?_⟩
  · show part s i base j * 64 + dB s i (j + 1) - 128 = _
    rw [← hp, hd]
  · show (contsB s i j && contB (dB s i (j + 1))) = true
    rw [hc, hd]
    unfold contB
    simp
    omega
theorem drop_getD (s : ByteArray) (i k : Nat) : (s.data.toList.drop i).getD k 0 = s.data.toList.getD (i + k) 0 := by
  simp [List.getD_eq_getElem?_getD]
theorem drop_ne (s : ByteArray) (i : Nat) (h : i < s.size) : s.data.toList.drop i ≠ [] := by
  intro e
  have := congrArg List.length e
  have h2 : s.data.toList.length = s.size := rfl
  simp at this
  omega
theorem drop_len (s : ByteArray) (i : Nat) : (s.data.toList.drop i).length = s.size - i := by simp
theorem getD_s (s : ByteArray) (i : Nat) (h : i < s.size) : s.data.toList.getD i 0 = s[i] := by
  rw [List.getD_eq_getElem?_getD, List.getElem?_eq_getElem (show i < s.data.toList.length from h)]
  rfl

theorem dB_s (s : ByteArray) (i k : Nat) (h : i + k < s.size) : dB s i k = s[i + k].toNat := by
  unfold dB
  rw [getD_s s (i + k) h]
theorem dB_drop (s : ByteArray) (i k : Nat) : ((s.data.toList.drop i).getD k 0).toNat = dB s i k := by unfold dB; rw [drop_getD]
/-- What validD says at a lead byte that n bytes follow. -/
def Lead (s : ByteArray) (i n base least : Nat) : Prop :=
  Lib.validD s.data.toList = if i + n < s.size ∧ contsB s i n = true ∧ badC (part s i base n) least = false then Lib.validD (s.data.toList.drop (i + (n + 1))) else false
theorem if_iff {p q : Prop} [Decidable p] [Decidable q] {a b : Bool} (h : p ↔ q) : (if p then a else b) = if q then a else b := by
  by_cases hp : p
  · rw [if_pos hp, if_pos (h.1 hp)]
  · rw [if_neg hp, if_neg (fun hq => hp (h.2 hq))]
theorem lead_1 (s : ByteArray) (i : Nat) (hi : i < s.size) (hv : Lib.validD s.data.toList = Lib.validD (s.data.toList.drop i)) (h1 : 194 ≤ dB s i 0) (h2 : dB s i 0 ≤ 223) : Lead s i 1 192 128 := by
  unfold Lead
  rw [hv, valid_1 _ (drop_ne s i hi) _ (dB_drop s i 0) h1 h2, dB_drop, drop_len, List.drop_drop]
  refine if_iff ?_
  unfold contsB contsB badC contB part part
  simp
  omega
theorem lead_2 (s : ByteArray) (i : Nat) (hi : i < s.size) (hv : Lib.validD s.data.toList = Lib.validD (s.data.toList.drop i)) (h1 : 224 ≤ dB s i 0) (h2 : dB s i 0 ≤ 239) : Lead s i 2 224 2048 := by
  unfold Lead
  rw [hv, valid_2 _ (drop_ne s i hi) _ (dB_drop s i 0) h1 h2, dB_drop, dB_drop, drop_len, List.drop_drop]
  refine if_iff ?_
  unfold contsB contsB contsB part part part
  simp only [Bool.and_eq_true, true_and]
  constructor
  · rintro ⟨a, b, c, d⟩; exact ⟨by omega, ⟨b, c⟩, d⟩
  · rintro ⟨a, ⟨b, c⟩, d⟩; exact ⟨by omega, b, c, d⟩
theorem lead_3 (s : ByteArray) (i : Nat) (hi : i < s.size) (hv : Lib.validD s.data.toList = Lib.validD (s.data.toList.drop i)) (h1 : 240 ≤ dB s i 0) (h2 : dB s i 0 ≤ 244) : Lead s i 3 240 65536 := by
  unfold Lead
  rw [hv, valid_3 _ (drop_ne s i hi) _ (dB_drop s i 0) h1 h2, dB_drop, dB_drop, dB_drop, drop_len, List.drop_drop]
  refine if_iff ?_
  unfold contsB contsB contsB contsB part part part part
  simp only [Bool.and_eq_true, true_and]
  constructor
  · rintro ⟨a, b, c, d, e⟩; exact ⟨by omega, ⟨⟨b, c⟩, d⟩, e⟩
  · rintro ⟨a, ⟨⟨b, c⟩, d⟩, e⟩; exact ⟨by omega, b, c, d, e⟩

/-- What the inner loop knows. -/
def KInv (s : ByteArray) (i n base : Nat) (vc vk : Value) : Prop :=
  ∃ k p : Nat, 1 ≤ k ∧ k ≤ n + 1 ∧ vk = .int .i64 k ∧ vc = .int .i64 p ∧ p = part s i base (k - 1) ∧ p < 10000000 ∧ contsB s i (k - 1) = true

end Go.Proofs.YtgfkobfkncpmoaaDoor

/- The document's Utf8, for every text: it says what utf8.ValidString says. Conditions: texts of at most a million bytes. -/
namespace Go.Proofs.YtgfkobfkncpmoaaDoor
open Go.RowKit

set_option maxHeartbeats 16000000 in
set_option maxRecDepth 100000 in
theorem utf8_any (s : ByteArray) (hs : s.size ≤ 1000000) (w : World) :
    Calls Tryd.prog 164 #[.string s] w fun e w' => e = .returned (.bool (Lib.validD s.data.toList)) ∧ w = w' := by
  go_enter Tryd.func164, Tryd.ntmps164
  go_wp2
  go_loop [3] (fun vi => OInv s vi) (fun vi => s.size - (intOf vi).toNat)
  case atStart => exact ⟨0, Nat.zero_le _, rfl, rfl⟩
  case round =>
    obtain ⟨i, hi, rfl, hv⟩ := hrel
    by_cases hlt : i < s.size
    · have hd0 := dB_s s i 0 (by omega)
      simp only [Nat.add_zero] at hd0
      by_cases c1 : s[i].toNat < 128
      · have HV : Hid (Lib.validD s.data.toList = Lib.validD (s.data.toList.drop (i + 1))) := by
          have e := Lib.validD_cons s[i] (s.data.toList.drop (i + 1)) c1
          rw [hv, ← e, List.drop_eq_getElem_cons (show i < s.data.toList.length from hlt)]
          rfl
        clear hd0 hv
        go_wp2
        go_round
        case rel => exact ⟨i + 1, by omega, by go_num, HV.out⟩
        case measure => simp [intOf]; omega
      · have hsel : (194 ≤ s[i].toNat ∧ s[i].toNat ≤ 223) ∨ (224 ≤ s[i].toNat ∧ s[i].toNat ≤ 239) ∨ (240 ≤ s[i].toNat ∧ s[i].toNat ≤ 244) ∨ (s[i].toNat < 194 ∨ 244 < s[i].toNat) := by omega
        rcases hsel with ⟨h1, h2⟩ | ⟨h1, h2⟩ | ⟨h1, h2⟩ | hno
        · have HL := hid (lead_1 s i hlt hv (by omega) (by omega))
          have HP0 : Hid (part s i 192 0 = s[i].toNat - 192) := by unfold Hid part; rw [hd0]
          have HP32 : Hid (part s i 192 0 < 32) := by have := HP0.out; unfold Hid; omega
          have hq : (s[i].toNat : Int) - 192 = ((s[i].toNat - 192 : Nat) : Int) := by omega
          obtain ⟨p0, hp0⟩ : ∃ p0, s[i].toNat - 192 = p0 := ⟨_, rfl⟩
          rw [hp0] at HP0 hq
          have hp32 : p0 < 32 := by omega
          clear hd0 hv hp0
          by_cases hlen : i + 1 < s.size
          · have hge : ¬ ((s.size : Int) ≤ (i : Int) + 1) := by omega
            go_wp2
            go_loop [4, 7, 8] (fun vc vk _ => KInv s i 1 192 vc vk) (fun _ vk _ => 2 - (intOf vk).toNat)
            case atStart => exact ⟨1, p0, by omega, by omega, rfl, rfl, HP0.out.symm, by omega, rfl⟩
            case round =>
              obtain ⟨k, p, hk1, hk2, rfl, rfl, hp, hpb, hcs⟩ := hrel
              have HPP := hid hp
              have HCS := hid hcs
              clear hp hcs hq
              by_cases hkn : k ≤ 1
              · have hdk := hid (dB_s s i k (by omega))
                have hix : i + k < s.size := by omega
                obtain ⟨d, hd⟩ : ∃ d, s[i + k].toNat = d := ⟨_, rfl⟩
                have hat : (Instr.index 9 (.string s) (.int .i64 ((i : Int) + (k : Int)))).run Tryd.prog w = .ok (.int .u8 (d : Int)) w := by
                  have := string_at s (i + k) hix w
                  rw [hd] at this
                  rw [← this]
                  simp
                rw [hd] at hdk
                have hd256 : d < 256 := by rw [← hd]; exact s[i + k].toNat_lt
                clear hd
                by_cases hcb : 128 ≤ d ∧ d ≤ 191
                · obtain ⟨e1, e2⟩ := hcb
                  have HN := hid (part_next hk1 HPP.out HCS.out hdk.out e1 e2)
                  have HLT := hid (part_small s i 192 HP32.out k (by omega) HN.out.2)
                  go_wp2
                  go_round
                  case rel => exact ⟨k + 1, p * 64 + d - 128, by omega, by omega, by go_num, by go_num, HN.out.1.symm, by rw [← HN.out.1]; exact HLT.out, HN.out.2⟩
                  case measure => simp [intOf]; omega
                · have HF : Hid (Lib.validD s.data.toList = false) := by
                    have h1 := HL.out
                    unfold Lead at h1
                    rw [if_neg] at h1
                    · exact h1
                    · rintro ⟨_, h2, _⟩
                      rw [contsB_bad s i 1 k hk1 hkn (by rw [hdk.out]; unfold contB; simp; omega)] at h2
                      cases h2
                  go_wp2
                  all_goals first | (exfalso; omega) | skip
                  all_goals go_ret
                  all_goals exact ⟨ret_bool HF.out.symm, rfl⟩
              · obtain rfl : k = 2 := by omega
                have hp : p = part s i 192 1 := HPP.out
                have hcs : contsB s i 1 = true := HCS.out
                cases hbad : badC p 128
                · have HV : Hid (Lib.validD s.data.toList = Lib.validD (s.data.toList.drop (i + 2))) := by
                    have h1 := HL.out
                    unfold Lead at h1
                    rw [if_pos ⟨hlen, hcs, by rw [← hp]; exact hbad⟩] at h1
                    exact h1
                  have hb1 : 128 ≤ p ∧ p ≤ 1114111 ∧ ¬ (55296 ≤ p ∧ p ≤ 57343) := by
                    unfold badC at hbad
                    simp at hbad
                    omega
                  obtain ⟨b1, b2, b3⟩ := hb1
                  clear hp hcs hbad HPP HCS
                  go_wp2
                  all_goals first | (exfalso; omega) | skip
                  all_goals
                    go_round
                    case rel => exact ⟨i + 2, by omega, by go_num, HV.out⟩
                    case measure => simp [intOf]; omega
                · have HF : Hid (Lib.validD s.data.toList = false) := by
                    have h1 := HL.out
                    unfold Lead at h1
                    rw [if_neg] at h1
                    · exact h1
                    · rintro ⟨_, _, h2⟩
                      rw [← hp, hbad] at h2
                      cases h2
                  have hb1 : p < 128 ∨ 1114111 < p ∨ (55296 ≤ p ∧ p ≤ 57343) := by
                    unfold badC at hbad
                    simp at hbad
                    omega
                  clear hp hcs hbad HPP HCS
                  go_wp2
                  all_goals first | (exfalso; omega) | skip
                  all_goals go_ret
                  all_goals exact ⟨ret_bool HF.out.symm, rfl⟩
          · have HF : Hid (Lib.validD s.data.toList = false) := by
              have h1 := HL.out
              unfold Lead at h1
              rw [if_neg (fun h => hlen h.1)] at h1
              exact h1
            go_wp2
            all_goals first | (exfalso; omega) | skip
            all_goals go_ret
            all_goals exact ⟨ret_bool HF.out.symm, rfl⟩
        · have HL := hid (lead_2 s i hlt hv (by omega) (by omega))
          have HP0 : Hid (part s i 224 0 = s[i].toNat - 224) := by unfold Hid part; rw [hd0]
          have HP32 : Hid (part s i 224 0 < 32) := by have := HP0.out; unfold Hid; omega
          have hq : (s[i].toNat : Int) - 224 = ((s[i].toNat - 224 : Nat) : Int) := by omega
          obtain ⟨p0, hp0⟩ : ∃ p0, s[i].toNat - 224 = p0 := ⟨_, rfl⟩
          rw [hp0] at HP0 hq
          have hp32 : p0 < 32 := by omega
          clear hd0 hv hp0
          by_cases hlen : i + 2 < s.size
          · have hge : ¬ ((s.size : Int) ≤ (i : Int) + 2) := by omega
            go_wp2
            go_loop [4, 7, 8] (fun vc vk _ => KInv s i 2 224 vc vk) (fun _ vk _ => 3 - (intOf vk).toNat)
            case atStart => exact ⟨1, p0, by omega, by omega, rfl, rfl, HP0.out.symm, by omega, rfl⟩
            case round =>
              obtain ⟨k, p, hk1, hk2, rfl, rfl, hp, hpb, hcs⟩ := hrel
              have HPP := hid hp
              have HCS := hid hcs
              clear hp hcs hq
              by_cases hkn : k ≤ 2
              · have hdk := hid (dB_s s i k (by omega))
                have hix : i + k < s.size := by omega
                obtain ⟨d, hd⟩ : ∃ d, s[i + k].toNat = d := ⟨_, rfl⟩
                have hat : (Instr.index 9 (.string s) (.int .i64 ((i : Int) + (k : Int)))).run Tryd.prog w = .ok (.int .u8 (d : Int)) w := by
                  have := string_at s (i + k) hix w
                  rw [hd] at this
                  rw [← this]
                  simp
                rw [hd] at hdk
                have hd256 : d < 256 := by rw [← hd]; exact s[i + k].toNat_lt
                clear hd
                by_cases hcb : 128 ≤ d ∧ d ≤ 191
                · obtain ⟨e1, e2⟩ := hcb
                  have HN := hid (part_next hk1 HPP.out HCS.out hdk.out e1 e2)
                  have HLT := hid (part_small s i 224 HP32.out k (by omega) HN.out.2)
                  go_wp2
                  go_round
                  case rel => exact ⟨k + 1, p * 64 + d - 128, by omega, by omega, by go_num, by go_num, HN.out.1.symm, by rw [← HN.out.1]; exact HLT.out, HN.out.2⟩
                  case measure => simp [intOf]; omega
                · have HF : Hid (Lib.validD s.data.toList = false) := by
                    have h1 := HL.out
                    unfold Lead at h1
                    rw [if_neg] at h1
                    · exact h1
                    · rintro ⟨_, h2, _⟩
                      rw [contsB_bad s i 2 k hk1 hkn (by rw [hdk.out]; unfold contB; simp; omega)] at h2
                      cases h2
                  go_wp2
                  all_goals first | (exfalso; omega) | skip
                  all_goals go_ret
                  all_goals exact ⟨ret_bool HF.out.symm, rfl⟩
              · obtain rfl : k = 3 := by omega
                have hp : p = part s i 224 2 := HPP.out
                have hcs : contsB s i 2 = true := HCS.out
                cases hbad : badC p 2048
                · have HV : Hid (Lib.validD s.data.toList = Lib.validD (s.data.toList.drop (i + 3))) := by
                    have h1 := HL.out
                    unfold Lead at h1
                    rw [if_pos ⟨hlen, hcs, by rw [← hp]; exact hbad⟩] at h1
                    exact h1
                  have hb1 : 2048 ≤ p ∧ p ≤ 1114111 ∧ ¬ (55296 ≤ p ∧ p ≤ 57343) := by
                    unfold badC at hbad
                    simp at hbad
                    omega
                  obtain ⟨b1, b2, b3⟩ := hb1
                  clear hp hcs hbad HPP HCS
                  go_wp2
                  all_goals first | (exfalso; omega) | skip
                  all_goals
                    go_round
                    case rel => exact ⟨i + 3, by omega, by go_num, HV.out⟩
                    case measure => simp [intOf]; omega
                · have HF : Hid (Lib.validD s.data.toList = false) := by
                    have h1 := HL.out
                    unfold Lead at h1
                    rw [if_neg] at h1
                    · exact h1
                    · rintro ⟨_, _, h2⟩
                      rw [← hp, hbad] at h2
                      cases h2
                  have hb1 : p < 2048 ∨ 1114111 < p ∨ (55296 ≤ p ∧ p ≤ 57343) := by
                    unfold badC at hbad
                    simp at hbad
                    omega
                  clear hp hcs hbad HPP HCS
                  go_wp2
                  all_goals first | (exfalso; omega) | skip
                  all_goals go_ret
                  all_goals exact ⟨ret_bool HF.out.symm, rfl⟩
          · have HF : Hid (Lib.validD s.data.toList = false) := by
              have h1 := HL.out
              unfold Lead at h1
              rw [if_neg (fun h => hlen h.1)] at h1
              exact h1
            go_wp2
            all_goals first | (exfalso; omega) | skip
            all_goals go_ret
            all_goals exact ⟨ret_bool HF.out.symm, rfl⟩
        · have HL := hid (lead_3 s i hlt hv (by omega) (by omega))
          have HP0 : Hid (part s i 240 0 = s[i].toNat - 240) := by unfold Hid part; rw [hd0]
          have HP32 : Hid (part s i 240 0 < 32) := by have := HP0.out; unfold Hid; omega
          have hq : (s[i].toNat : Int) - 240 = ((s[i].toNat - 240 : Nat) : Int) := by omega
          obtain ⟨p0, hp0⟩ : ∃ p0, s[i].toNat - 240 = p0 := ⟨_, rfl⟩
          rw [hp0] at HP0 hq
          have hp32 : p0 < 32 := by omega
          clear hd0 hv hp0
          by_cases hlen : i + 3 < s.size
          · have hge : ¬ ((s.size : Int) ≤ (i : Int) + 3) := by omega
            go_wp2
            go_loop [4, 7, 8] (fun vc vk _ => KInv s i 3 240 vc vk) (fun _ vk _ => 4 - (intOf vk).toNat)
            case atStart => exact ⟨1, p0, by omega, by omega, rfl, rfl, HP0.out.symm, by omega, rfl⟩
            case round =>
              obtain ⟨k, p, hk1, hk2, rfl, rfl, hp, hpb, hcs⟩ := hrel
              have HPP := hid hp
              have HCS := hid hcs
              clear hp hcs hq
              by_cases hkn : k ≤ 3
              · have hdk := hid (dB_s s i k (by omega))
                have hix : i + k < s.size := by omega
                obtain ⟨d, hd⟩ : ∃ d, s[i + k].toNat = d := ⟨_, rfl⟩
                have hat : (Instr.index 9 (.string s) (.int .i64 ((i : Int) + (k : Int)))).run Tryd.prog w = .ok (.int .u8 (d : Int)) w := by
                  have := string_at s (i + k) hix w
                  rw [hd] at this
                  rw [← this]
                  simp
                rw [hd] at hdk
                have hd256 : d < 256 := by rw [← hd]; exact s[i + k].toNat_lt
                clear hd
                by_cases hcb : 128 ≤ d ∧ d ≤ 191
                · obtain ⟨e1, e2⟩ := hcb
                  have HN := hid (part_next hk1 HPP.out HCS.out hdk.out e1 e2)
                  have HLT := hid (part_small s i 240 HP32.out k (by omega) HN.out.2)
                  go_wp2
                  go_round
                  case rel => exact ⟨k + 1, p * 64 + d - 128, by omega, by omega, by go_num, by go_num, HN.out.1.symm, by rw [← HN.out.1]; exact HLT.out, HN.out.2⟩
                  case measure => simp [intOf]; omega
                · have HF : Hid (Lib.validD s.data.toList = false) := by
                    have h1 := HL.out
                    unfold Lead at h1
                    rw [if_neg] at h1
                    · exact h1
                    · rintro ⟨_, h2, _⟩
                      rw [contsB_bad s i 3 k hk1 hkn (by rw [hdk.out]; unfold contB; simp; omega)] at h2
                      cases h2
                  go_wp2
                  all_goals first | (exfalso; omega) | skip
                  all_goals go_ret
                  all_goals exact ⟨ret_bool HF.out.symm, rfl⟩
              · obtain rfl : k = 4 := by omega
                have hp : p = part s i 240 3 := HPP.out
                have hcs : contsB s i 3 = true := HCS.out
                cases hbad : badC p 65536
                · have HV : Hid (Lib.validD s.data.toList = Lib.validD (s.data.toList.drop (i + 4))) := by
                    have h1 := HL.out
                    unfold Lead at h1
                    rw [if_pos ⟨hlen, hcs, by rw [← hp]; exact hbad⟩] at h1
                    exact h1
                  have hb1 : 65536 ≤ p ∧ p ≤ 1114111 ∧ ¬ (55296 ≤ p ∧ p ≤ 57343) := by
                    unfold badC at hbad
                    simp at hbad
                    omega
                  obtain ⟨b1, b2, b3⟩ := hb1
                  clear hp hcs hbad HPP HCS
                  go_wp2
                  all_goals first | (exfalso; omega) | skip
                  all_goals
                    go_round
                    case rel => exact ⟨i + 4, by omega, by go_num, HV.out⟩
                    case measure => simp [intOf]; omega
                · have HF : Hid (Lib.validD s.data.toList = false) := by
                    have h1 := HL.out
                    unfold Lead at h1
                    rw [if_neg] at h1
                    · exact h1
                    · rintro ⟨_, _, h2⟩
                      rw [← hp, hbad] at h2
                      cases h2
                  have hb1 : p < 65536 ∨ 1114111 < p ∨ (55296 ≤ p ∧ p ≤ 57343) := by
                    unfold badC at hbad
                    simp at hbad
                    omega
                  clear hp hcs hbad HPP HCS
                  go_wp2
                  all_goals first | (exfalso; omega) | skip
                  all_goals go_ret
                  all_goals exact ⟨ret_bool HF.out.symm, rfl⟩
          · have HF : Hid (Lib.validD s.data.toList = false) := by
              have h1 := HL.out
              unfold Lead at h1
              rw [if_neg (fun h => hlen h.1)] at h1
              exact h1
            go_wp2
            all_goals first | (exfalso; omega) | skip
            all_goals go_ret
            all_goals exact ⟨ret_bool HF.out.symm, rfl⟩
        · have HV : Hid (Lib.validD s.data.toList = false) := by
            rw [hv]
            exact valid_no _ (drop_ne s i hlt) _ (dB_drop s i 0) (by omega) (by omega)
          clear hd0 hv
          rcases hno with hno | hno
          · have n1 : ¬ (194 ≤ s[i].toNat) := by omega
            have n2 : ¬ (224 ≤ s[i].toNat) := by omega
            have n3 : ¬ (240 ≤ s[i].toNat) := by omega
            go_wp2
            go_ret
            exact ⟨ret_bool HV.out.symm, rfl⟩
          · obtain ⟨c, hc⟩ : ∃ c, s[i].toNat = c := ⟨_, rfl⟩
            have hat : (Instr.index 9 (.string s) (.int .i64 (i : Int))).run Tryd.prog w = .ok (.int .u8 (c : Int)) w := by
              rw [← hc]
              exact string_at s i hlt w
            have hc256 : c < 256 := by rw [← hc]; exact s[i].toNat_lt
            rw [hc] at hno c1
            clear hc
            have m0 : decide (c < 128) = false := decide_eq_false (by omega)
            have n1 : decide (194 ≤ c) = true := decide_eq_true (by omega)
            have n2 : decide (224 ≤ c) = true := decide_eq_true (by omega)
            have n3 : decide (240 ≤ c) = true := decide_eq_true (by omega)
            have m1 : decide (c ≤ 223) = false := decide_eq_false (by omega)
            have m2 : decide (c ≤ 239) = false := decide_eq_false (by omega)
            have m3 : decide (c ≤ 244) = false := decide_eq_false (by omega)
            have HNO := hid hno
            clear hno c1 m0 n1 n2 n3 m1 m2 m3
            go_wp2
            all_goals first | (exfalso; have := HNO.out; omega) | skip
            all_goals go_ret
            all_goals exact ⟨ret_bool HV.out.symm, rfl⟩
    · obtain rfl : i = s.size := by omega
      have HV : Hid (Lib.validD s.data.toList = true) := by
        rw [hv, List.drop_of_length_le (by simp)]
        rfl
      clear hv
      go_wp2
      go_ret
      exact ⟨ret_bool HV.out.symm, rfl⟩

end Go.Proofs.YtgfkobfkncpmoaaDoor

/- The document's size and Right (package joistref01), for every int. Conditions: ints of 64 bits. -/
namespace Go.Proofs.YtgfkobfkncpmoaaDoor
open Go.RowKit

theorem clear_sign (n : Int) : bits .andNot .i64 n (-9223372036854775808) = n % 9223372036854775808 := by
  have e1 : (~~~ BitVec.ofInt 64 (-9223372036854775808)).toNat = 2 ^ 63 - 1 := by decide
  show IntKind.i64.wrap (((BitVec.ofInt 64 n) &&& ~~~(BitVec.ofInt 64 (-9223372036854775808))).toNat : Nat) = _
  rw [BitVec.toNat_and, ofInt64, e1, Nat.and_two_pow_sub_one_eq_mod, IntKind.wrap_i64]
  unfold wd
  omega

set_option maxHeartbeats 400000 in
theorem size_any (n : Int) (w : World) :
    Calls Tryd.prog 199 #[.int .i64 n] w fun e w' => e = .returned (.int .i64 (n % 9223372036854775808)) ∧ w = w' := by
  have hx := clear_sign n
  rw [← hx]
  clear hx
  go_enter Tryd.func199, Tryd.ntmps199
  go_wp2
  go_ret
  exact ⟨rfl, rfl⟩

set_option maxHeartbeats 400000 in
theorem refRight_any (n : Int) (w : World) :
    Calls Tryd.prog 165 #[.int .i64 n] w fun e w' => e = .returned (.bool (rightB n)) ∧ w = w' := by
  have HS : Hid (∀ W, Calls Tryd.prog 199 #[.int .i64 n] W fun e w' => e = .returned (.int .i64 (n % 9223372036854775808)) ∧ W = w') := fun W => size_any n W
  have HR : Hid (rightB n = (!nanB n || (n == 9221120237041090560))) := hid (by unfold rightB; exact Bool.or_comm _ _)
  have hb : decide (n % 9223372036854775808 ≤ 9218868437227405312) = !nanB n := by unfold nanB; rw [Bool.eq_iff_iff]; simp
  obtain ⟨s, hs⟩ : ∃ s, n % 9223372036854775808 = s := ⟨_, rfl⟩
  rw [hs] at HS hb
  clear hs
  cases hn : nanB n
  · rw [hn] at HR hb
    have hb' : s ≤ 9218868437227405312 := of_decide_eq_true hb
    clear hb hn
    have HR2 : Hid (rightB n = true) := hid (by rw [HR.out]; rfl)
    clear HR
    go_enter Tryd.func165, Tryd.ntmps165
    go_wp2_with (go_at_call 199; refine (HS.out _).mono ?_; rintro e w' ⟨rfl, rfl⟩)
    go_ret
    rw [HR2.out]
    exact ⟨rfl, rfl⟩
  · rw [hn] at HR hb
    have hb' : decide (s ≤ 9218868437227405312) = false := hb
    clear hb hn
    have HR2 : Hid (rightB n = (n == 9221120237041090560)) := hid (by rw [HR.out]; rfl)
    clear HR
    go_enter Tryd.func165, Tryd.ntmps165
    go_wp2_with (go_at_call 199; refine (HS.out _).mono ?_; rintro e w' ⟨rfl, rfl⟩)
    go_ret
    rw [HR2.out]
    exact ⟨rfl, rfl⟩

end Go.Proofs.YtgfkobfkncpmoaaDoor

/- The document's Right, for every value with a text of at most a thousand bytes. Conditions: the length alone. -/
namespace Go.Proofs.YtgfkobfkncpmoaaDoor
open Go.RowKit

set_option maxHeartbeats 400000 in
theorem refright_1 (n : Int) (s : ByteArray) (w : World) :
    Calls Tryd.prog 97 #[.agg #[.int .i64 1, .int .i64 n, .string s]] w fun e w' => e = .returned (.bool s.toList.isEmpty) ∧ Below w.heap.size w w' := by
  go_enter Tryd.func97, Tryd.ntmps97
  go_wp2
  go_ret
  exact ⟨rfl, below_new _ _⟩

set_option maxHeartbeats 400000 in
theorem refright_2 (n : Int) (s : ByteArray) (w : World) (_ : s.size ≤ 4000) :
    Calls Tryd.prog 97 #[.agg #[.int .i64 2, .int .i64 n, .string s]] w fun e w' => e = .returned (.bool (n == 0 && decide (s.size ≤ 32))) ∧ Below w.heap.size w w' := by
  go_enter Tryd.func97, Tryd.ntmps97
  go_wp2
  all_goals go_ret
  · rename_i h
    exact ⟨ret_bool (show decide ((s.size : Int) ≤ 32) = _ by rw [h]; simp; omega), below_new _ _⟩
  · rename_i h
    exact ⟨ret_bool (show false = _ by simp [h]), below_new _ _⟩

set_option maxHeartbeats 400000 in
theorem refright_3 (n : Int) (s : ByteArray) (w : World) (hs : s.size ≤ 4000)  :
    Calls Tryd.prog 97 #[.agg #[.int .i64 3, .int .i64 n, .string s]] w fun e w' => e = .returned (.bool (n == 0 && decide (s.size ≤ 32) && Lib.validD s.data.toList)) ∧ Below w.heap.size w w' := by
  obtain ⟨R, hR⟩ : ∃ R, (n == 0 && decide (s.size ≤ 32) && Lib.validD s.data.toList) = R := ⟨_, rfl⟩
  rw [hR]
  have HV : Hid (∀ W, Calls Tryd.prog 164 #[.string s] W fun e w' => e = .returned (.bool (Lib.validD s.data.toList)) ∧ W = w') := fun W => utf8_any s (by omega) W
  generalize Lib.validD s.data.toList = V at *
  have HR := hid hR
  clear hR
  go_enter Tryd.func97, Tryd.ntmps97
  go_wp2_with (go_at_call 164; refine (HV.out _).mono ?_; rintro e w1 ⟨rfl, rfl⟩)
  all_goals go_ret
  · rename_i h1 h2
    exact ⟨ret_bool (show V = R by rw [← HR.out, h1]; simp; omega), below_new _ _⟩
  · rename_i h1 h2
    exact ⟨ret_bool (show false = R by rw [← HR.out, h1]; simp; omega), below_new _ _⟩
  · rename_i h1
    exact ⟨ret_bool (show false = R by rw [← HR.out]; simp [h1]), below_new _ _⟩

set_option maxHeartbeats 400000 in
theorem refright_4 (n : Int) (s : ByteArray) (w : World) :
    Calls Tryd.prog 97 #[.agg #[.int .i64 4, .int .i64 n, .string s]] w fun e w' => e = .returned (.bool (s.toList.isEmpty && (n == 0 || n == 1))) ∧ Below w.heap.size w w' := by
  obtain ⟨R, hR⟩ : ∃ R, (s.toList.isEmpty && (n == 0 || n == 1)) = R := ⟨_, rfl⟩
  rw [hR]
  have HR := hid hR
  clear hR
  go_enter Tryd.func97, Tryd.ntmps97
  go_wp2
  all_goals go_ret
  · rename_i h1 h2
    exact ⟨ret_bool (show true = R by rw [← HR.out, h1, h2]; rfl), below_new _ _⟩
  · rename_i h1 h2
    exact ⟨ret_bool (show (n == 0 || n == 1) = R by rw [← HR.out, h1]; rfl), below_new _ _⟩
  · rename_i h1
    exact ⟨ret_bool (show false = R by rw [← HR.out]; simp [h1]), below_new _ _⟩

set_option maxHeartbeats 400000 in
theorem refright_5 (n : Int) (s : ByteArray) (w : World) :
    Calls Tryd.prog 97 #[.agg #[.int .i64 5, .int .i64 n, .string s]] w fun e w' => e = .returned (.bool (s.toList.isEmpty && rightB n)) ∧ Below w.heap.size w w' := by
  obtain ⟨R, hR⟩ : ∃ R, (s.toList.isEmpty && rightB n) = R := ⟨_, rfl⟩
  rw [hR]
  have HV : Hid (∀ W, Calls Tryd.prog 165 #[.int .i64 n] W fun e w' => e = .returned (.bool (rightB n)) ∧ W = w') := fun W => refRight_any n W
  generalize rightB n = V at *
  have HR := hid hR
  clear hR
  go_enter Tryd.func97, Tryd.ntmps97
  go_wp2_with (go_at_call 165; refine (HV.out _).mono ?_; rintro e w1 ⟨rfl, rfl⟩)
  all_goals go_ret
  · rename_i h1
    exact ⟨ret_bool (show V = R by rw [← HR.out, h1]; rfl), below_new _ _⟩
  · rename_i h1
    exact ⟨ret_bool (show false = R by rw [← HR.out]; simp [h1]), below_new _ _⟩

set_option maxHeartbeats 400000 in
theorem refright_0 (k n : Int) (s : ByteArray) (h1 : (k == 1) = false) (h2 : (k == 2) = false) (h3 : (k == 3) = false) (h4 : (k == 4) = false) (h5 : (k == 5) = false) (w : World) :
    Calls Tryd.prog 97 #[.agg #[.int .i64 k, .int .i64 n, .string s]] w fun e w' => e = .returned (.bool false) ∧ Below w.heap.size w w' := by
  go_enter Tryd.func97, Tryd.ntmps97
  go_wp2
  go_ret
  exact ⟨rfl, below_new _ _⟩

/-- The document's Right, for every value with a text of at most a thousand bytes. -/
theorem refright_any (k n : Int) (s : ByteArray) (w : World) (hs : s.size ≤ 4000)  :
    Calls Tryd.prog 97 #[.agg #[.int .i64 k, .int .i64 n, .string s]] w fun e w' => e = .returned (.bool (vRight k n s.data.toList)) ∧ Below w.heap.size w w' := by
  have hsz : s.data.toList.length = s.size := rfl
  unfold vRight
  rw [hsz, ← toList_eq]
  by_cases h1 : k = 1
  · subst h1; exact refright_1 n s w
  rw [if_neg h1]
  by_cases h2 : k = 2
  · subst h2; exact refright_2 n s w hs
  rw [if_neg h2]
  by_cases h3 : k = 3
  · subst h3; rw [toList_eq]; exact refright_3 n s w  hs
  rw [if_neg h3]
  by_cases h4 : k = 4
  · subst h4; exact refright_4 n s w
  rw [if_neg h4]
  by_cases h5 : k = 5
  · subst h5; exact refright_5 n s w
  rw [if_neg h5]
  exact refright_0 k n s (by simpa using h1) (by simpa using h2) (by simpa using h3) (by simpa using h4) (by simpa using h5) w

end Go.Proofs.YtgfkobfkncpmoaaDoor
