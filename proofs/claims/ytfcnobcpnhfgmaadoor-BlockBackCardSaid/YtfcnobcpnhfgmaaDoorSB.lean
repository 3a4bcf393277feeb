/- Plain mathematics: bits of 64-bit ints that are put side by side; the frames of bytes, one behind the other. No program in it. -/
import Derived.Test.YtfcnobcpnhfgmaaDoorSA
import Derived.Laws.BitsAllLaws
import Derived.Laws.Bits64
namespace Go.Proofs.YtfcnobcpnhfgmaaDoor
open Go.RowKit

theorem i64_or_nat (a b : Nat) (ha : a < 9223372036854775808) (hb : b < 9223372036854775808) : bits .or .i64 (a : Int) (b : Int) = ((a ||| b : Nat) : Int) := by
  have hx : a ||| b < 2 ^ 63 := Nat.or_lt_two_pow (by omega) (by omega)
  show IntKind.i64.wrap ((BitVec.ofInt 64 (a : Int) ||| BitVec.ofInt 64 (b : Int)).toNat : Int) = _
  rw [BitVec.toNat_or, ofInt_u64 a (by omega), ofInt_u64 b (by omega), IntKind.wrap_i64]
  omega
/-- A part above all bits that are there. -/
theorem or_part (n y i : Nat) (hn : n < 2 ^ (7 * i)) (hy : y < 128) (hi : i ≤ 8) : bits .or .i64 (n : Int) (((2 ^ (7 * i) * y : Nat) : Int)) = ((n + 2 ^ (7 * i) * y : Nat) : Int) := by
  have hp : (2 : Nat) ^ (7 * i) ≤ 2 ^ 56 := Nat.pow_le_pow_right (by decide) (by omega)
  have hm : 2 ^ (7 * i) * y ≤ 2 ^ 56 * 127 := Nat.mul_le_mul hp (by omega)
  rw [i64_or_nat _ _ (by omega) (by omega), Nat.or_comm, nat_join (7 * i) _ _ (by rw [Nat.mul_mod_right]) hn, Nat.add_comm]
theorem clear_top (x : Nat) (hx : x < 256) : bits .andNot .u8 (x : Int) 128 = ((x % 128 : Nat) : Int) := by
  have := u8_andNot_nat x 128 hx (by decide)
  rw [show ((128 : Nat) : Int) = 128 from rfl] at this
  rw [this]
  have e : x &&& (255 - 128) = x % 2 ^ 7 := Nat.and_two_pow_sub_one_eq_mod _ 7
  rw [e]
/-- High and low numbers of a sum, side by side. -/
theorem or_sum (hi lo : Nat) (h1 : hi < 65521) (h2 : lo < 65521) : bits .or .i64 (((hi * 65536 : Nat) : Int)) (lo : Int) = ((hi * 65536 + lo : Nat) : Int) := by
  rw [i64_or_nat _ _ (by omega) (by omega), nat_join 16 _ _ (by omega) (by omega)]

/-- The frames of bytes, one behind the other: their bytes, how many bytes they take, what stands behind (0, 1, 2: nothing, torn, bad). -/
def allM : Nat → List UInt8 → List (List UInt8) × Nat × Nat
  | 0, _ => ([], 0, 0)
  | f + 1, l => if l = [] then ([], 0, 0) else
    match nextM l with
    | .whole x r => (x :: (allM f r).1, (l.length - r.length) + (allM f r).2.1, (allM f r).2.2)
    | .torn => ([], 0, 1)
    | .bad => ([], 0, 2)
/-- What a whole frame leaves is less. -/
theorem next_less {l x r : List UInt8} (h : nextM l = .whole x r) : ∃ k, 1 ≤ k ∧ k + x.length + 4 ≤ l.length ∧ x = (l.drop k).take x.length ∧ r = l.drop (k + x.length + 4) ∧ x.length ≤ 65536 ∧ k ≤ 9 := by
  unfold nextM at h
  split at h
  · cases h
  · split at h
    · cases h
    · rename_i n t ht
      obtain ⟨k, h1, h2, h3, h4, h5⟩ := tkGo_rest _ _ _ _ _ ht
      split at h
      · cases h
      · split at h
        · cases h
        · split at h
          · rename_i g1 g2 g3
            rw [h4, List.length_drop] at g2
            have e : x = t.take n := by injection h with a b; exact a.symm
            have e2 : r = t.drop (n + 4) := by injection h with a b; exact b.symm
            have el : x.length = n := by rw [e, List.length_take, h4, List.length_drop]; omega
            refine ⟨k, h1, by omega, by rw [el, e, h4], ?_, by omega, h2⟩
            rw [el, e2, h4, List.drop_drop]
            congr 1
          · cases h
theorem next_len {l x r : List UInt8} (h : nextM l = .whole x r) : r.length < l.length := by
  obtain ⟨k, h1, h2, h3, h4, _⟩ := next_less h
  rw [h4, List.length_drop]; omega
/-- More fuel than bytes tells the same. -/
theorem all_fuel (f : Nat) : ∀ g l, l.length ≤ f → l.length ≤ g → allM (f + 1) l = allM (g + 1) l := by
  induction f with
  | zero => intro g l h1 h2; have : l = [] := List.eq_nil_of_length_eq_zero (by omega)
            subst this; rfl
  | succ f ih =>
    intro g l h1 h2
    by_cases he : l = []
    · subst he; rfl
    · cases g with
      | zero => exact absurd (List.eq_nil_of_length_eq_zero (by omega)) he
      | succ g =>
        rw [allM, allM, if_neg he, if_neg he]
        split
        · rename_i x r hn
          have hl := next_len hn
          rw [ih g r (by omega) (by omega)]
        · rfl
        · rfl
def allF (l : List UInt8) : List (List UInt8) × Nat × Nat := allM (l.length + 1) l
theorem allF_nil : allF [] = ([], 0, 0) := rfl
theorem allF_whole {l x r : List UInt8} (h : nextM l = .whole x r) : allF l = (x :: (allF r).1, (l.length - r.length) + (allF r).2.1, (allF r).2.2) := by
  have hl := next_len h
  have he : l ≠ [] := by intro e; rw [e] at hl; simp at hl
  unfold allF
  rw [allM, if_neg he, h]
  simp only
  have e : allM l.length r = allM (r.length + 1) r := by
    have := all_fuel (l.length - 1) r.length r (by omega) (Nat.le_refl _)
    rwa [show l.length - 1 + 1 = l.length by omega] at this
  rw [e]
theorem allF_torn {l : List UInt8} (h : nextM l = .torn) (hl : l ≠ []) : allF l = ([], 0, 1) := by unfold allF; rw [allM, if_neg hl, h]
theorem allF_bad {l : List UInt8} (h : nextM l = .bad) (hl : l ≠ []) : allF l = ([], 0, 2) := by unfold allF; rw [allM, if_neg hl, h]
theorem next_nil : nextM [] = .torn := by unfold nextM; rw [if_pos (by decide)]

/-- Frames, one behind the other. -/
def framesM : List (List UInt8) → List UInt8
  | [] => []
  | b :: t => frameM b ++ framesM t
theorem frames_app (a b : List (List UInt8)) : framesM (a ++ b) = framesM a ++ framesM b := by
  induction a with
  | nil => rfl
  | cons x t ih => simp only [List.cons_append, framesM, ih, List.append_assoc]
theorem frame_len (b : List UInt8) : (frameM b).length = (numW b.length).length + b.length + 4 := by unfold frameM; simp only [List.length_append, byW_len]
/-- What stands behind frames stands there as at the beginning. -/
theorem allF_frames (list : List (List UInt8)) (hl : ∀ b ∈ list, b.length ≤ 65536) (r : List UInt8) : allF (framesM list ++ r) = (list ++ (allF r).1, (framesM list).length + (allF r).2.1, (allF r).2.2) := by
  induction list with
  | nil => simp [framesM]
  | cons b t ih =>
    have h1 : nextM (framesM (b :: t) ++ r) = .whole b (framesM t ++ r) := by
      rw [framesM, List.append_assoc]
      exact next_frame b _ (hl b (by simp))
    rw [allF_whole h1, ih (fun c hc => hl c (by simp [hc]))]
    simp only [List.cons_append, framesM, List.length_append, Prod.mk.injEq, true_and, and_true]
    omega
theorem numW_take_open (k : Nat) : ∀ n, n ≤ k → ∀ j, j < (numW n).length → ((numW n).take j).all (fun x => decide (128 ≤ x.toNat)) = true := by
  induction k with
  | zero => intro n h j hj; have : n = 0 := by omega
            subst this; rw [numW_small (by decide)] at hj ⊢; have : j = 0 := by simpa using hj
            subst this; rfl
  | succ k ih =>
    intro n h j hj
    by_cases h1 : n < 128
    · rw [numW_small h1] at hj ⊢; have : j = 0 := by simpa using hj
      subst this; rfl
    · have e : (UInt8.ofNat (128 + n % 128)).toNat = 128 + n % 128 := by rw [UInt8.toNat_ofNat']; omega
      rw [numW_big h1] at hj ⊢
      cases j with
      | zero => rfl
      | succ j =>
        rw [List.take_succ_cons, List.all_cons, ih (n / 128) (by omega) j (by simpa using hj), e, Bool.and_true, decide_eq_true_eq]
        omega
/-- What is cut off at a frame's end is torn. -/
theorem next_cut (b : List UInt8) (hb : b.length ≤ 65536) (j : Nat) (hj : j < (frameM b).length) : nextM ((frameM b).take j) = .torn := by
  rw [frame_len] at hj
  have hn3 : (numW b.length).length ≤ 3 := numW_len 2 _ (by omega)
  by_cases h : j < (numW b.length).length
  · have e : (frameM b).take j = (numW b.length).take j := by
      unfold frameM
      rw [List.append_assoc, List.take_append_of_le_length (by omega)]
    rw [e]
    unfold nextM
    rw [if_pos]
    unfold openB
    rw [numW_take_open _ _ (Nat.le_refl _) j h, Bool.and_true, decide_eq_true_eq, List.length_take]
    omega
  · have e : (frameM b).take j = numW b.length ++ (b ++ byW 4 (sumN b)).take (j - (numW b.length).length) := by
      unfold frameM
      rw [List.append_assoc, List.take_append, List.take_of_length_le (by omega)]
    rw [e, next_num _ hb, if_pos]
    rw [List.length_take, List.length_append, byW_len]
    omega
/-- Frames that are cut: those that are whole, and what is left is nothing or torn. -/
theorem allF_cut (a : List (List UInt8)) (ha : ∀ b ∈ a, b.length ≤ 65536) (b : List UInt8) (hb : b.length ≤ 65536) (j : Nat) (hj : j < (frameM b).length) :
    allF (framesM a ++ (frameM b).take j) = (a, (framesM a).length, if j = 0 then 0 else 1) := by
  rw [allF_frames a ha]
  by_cases h : j = 0
  · subst h
    rw [List.take_zero, allF_nil]
    simp
  · rw [allF_torn (next_cut b hb j hj)]
    · simp [h]
    · intro e
      have := congrArg List.length e
      rw [List.length_take, List.length_nil] at this
      omega
end Go.Proofs.YtfcnobcpnhfgmaaDoor
