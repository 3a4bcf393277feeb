/- Several texts in one: SA SB MfA. Conditions: as each theorem names them. -/
import Derived.Test.YtofkfafdodhmdaaGreatDoorFK
import Derived.Laws.BitsAllLaws
import Derived.Laws.Bits64
/- Plain mathematics of sums and frames: the two numbers of a sum, numbers as bytes, what stands at the beginning of bytes, and what a turned bit does. No program in it. -/
namespace Go.Proofs.YtofkfafdodhmdaaGreatDoor
open Go.RowKit

/-- The two numbers of bytes, not brought below the base. -/
def un : List UInt8 → Nat → Nat → Nat × Nat
  | [], x, y => (x, y)
  | c :: r, x, y => un r (x + c.toNat) (y + (x + c.toNat))
theorem un_app (a b : List UInt8) : ∀ x y, un (a ++ b) x y = un b (un a x y).1 (un a x y).2 := by
  induction a with
  | nil => intro x y; rfl
  | cons c r ih => intro x y; simp only [List.cons_append, un]; exact ih _ _
theorem un_mod (l : List UInt8) : ∀ x y x' y' : Nat, x % 65521 = x' % 65521 → y % 65521 = y' % 65521 → (un l x y).1 % 65521 = (un l x' y').1 % 65521 ∧ (un l x y).2 % 65521 = (un l x' y').2 % 65521 := by
  induction l with
  | nil => intro x y x' y' h1 h2; exact ⟨h1, h2⟩
  | cons c r ih => intro x y x' y' h1 h2; exact ih _ _ _ _ (by omega) (by omega)
def bsum : List UInt8 → Nat
  | [] => 0
  | c :: r => c.toNat + bsum r
theorem un_fst (l : List UInt8) : ∀ x y, (un l x y).1 = x + bsum l := by
  induction l with
  | nil => intro x y; rfl
  | cons c r ih => intro x y; simp only [un, bsum]; rw [ih]; omega
theorem u8_lt (c : UInt8) : c.toNat < 256 := c.toNat_lt
theorem bsum_le (l : List UInt8) : bsum l ≤ 255 * l.length := by
  induction l with
  | nil => simp [bsum]
  | cons c r ih => simp only [bsum, List.length_cons]; have := u8_lt c; omega
theorem un_snd (l : List UInt8) : ∀ x y, (un l x y).2 ≤ y + l.length * (x + 255 * l.length) := by
  induction l with
  | nil => intro x y; simp [un]
  | cons c r ih =>
    intro x y
    simp only [un, List.length_cons]
    have h := ih (x + c.toNat) (y + (x + c.toNat))
    have hc := u8_lt c
    have e1 : r.length * (x + c.toNat + 255 * r.length) ≤ r.length * (x + 255 * (r.length + 1)) := Nat.mul_le_mul_left _ (by omega)
    have e2 : (r.length + 1) * (x + 255 * (r.length + 1)) = r.length * (x + 255 * (r.length + 1)) + (x + 255 * (r.length + 1)) := by rw [Nat.add_mul, Nat.one_mul]
    omega
def sumN (l : List UInt8) : Nat := (un l 1 0).2 % 65521 * 65536 + (un l 1 0).1 % 65521
theorem sumN_lt (l : List UInt8) : sumN l < 4294967296 := by unfold sumN; omega
theorem sumN_nil : sumN [] = 1 := by decide

/-- A number's bytes. -/
def numW (n : Nat) : List UInt8 := if n < 128 then [UInt8.ofNat n] else UInt8.ofNat (128 + n % 128) :: numW (n / 128)
termination_by n
decreasing_by omega
theorem numW_small {n : Nat} (h : n < 128) : numW n = [UInt8.ofNat n] := by rw [numW, if_pos h]
theorem numW_big {n : Nat} (h : ¬ n < 128) : numW n = UInt8.ofNat (128 + n % 128) :: numW (n / 128) := by rw [numW, if_neg h]
theorem numW_len (k : Nat) : ∀ n, n < 128 ^ (k + 1) → (numW n).length ≤ k + 1 := by
  induction k with
  | zero => intro n h; rw [numW_small (by simpa using h)]; simp
  | succ k ih =>
    intro n h
    by_cases h1 : n < 128
    · rw [numW_small h1]; simp
    · rw [numW_big h1, List.length_cons]
      have := ih (n / 128) (by rw [Nat.div_lt_iff_lt_mul (by decide)]; rw [Nat.pow_succ] at h; exact h)
      omega
theorem numW_pos (n : Nat) : 1 ≤ (numW n).length := by rw [numW]; split <;> simp
/-- The number at the beginning of bytes: f bytes at most, i of them gone. -/
def tkGo : Nat → Nat → List UInt8 → Option (Nat × List UInt8)
  | 0, _, _ => none
  | _ + 1, _, [] => none
  | f + 1, i, x :: r => if x.toNat < 128 then (if x.toNat = 0 ∧ i ≠ 0 then none else some (x.toNat, r)) else (tkGo f (i + 1) r).map fun p => (x.toNat % 128 + 128 * p.1, p.2)
def tk (l : List UInt8) : Option (Nat × List UInt8) := tkGo 9 0 l
theorem tkGo_num (r : List UInt8) (f : Nat) : ∀ i n, n < 128 ^ (f + 1) → (i = 0 ∨ n ≠ 0) → tkGo (f + 1) i (numW n ++ r) = some (n, r) := by
  induction f with
  | zero =>
    intro i n h h2
    have h1 : n < 128 := by simpa using h
    have e : (UInt8.ofNat n).toNat = n := by rw [UInt8.toNat_ofNat']; omega
    rw [numW_small h1]
    simp only [List.cons_append, List.nil_append, tkGo, e]
    rw [if_pos h1, if_neg (by omega)]
  | succ f ih =>
    intro i n h h2
    by_cases h1 : n < 128
    · have e : (UInt8.ofNat n).toNat = n := by rw [UInt8.toNat_ofNat']; omega
      rw [numW_small h1]
      simp only [List.cons_append, List.nil_append, tkGo, e]
      rw [if_pos h1, if_neg (by omega)]
    · have e : (UInt8.ofNat (128 + n % 128)).toNat = 128 + n % 128 := by rw [UInt8.toNat_ofNat']; omega
      rw [numW_big h1]
      simp only [List.cons_append]
      rw [tkGo, e, if_neg (by omega), ih (i + 1) (n / 128) (by rw [Nat.div_lt_iff_lt_mul (by decide)]; rw [Nat.pow_succ] at h; exact h) (.inr (by omega))]
      simp only [Option.map_some, Option.some.injEq, Prod.mk.injEq, and_true]
      omega
theorem tk_num (n : Nat) (h : n < 9223372036854775808) (r : List UInt8) : tk (numW n ++ r) = some (n, r) := tkGo_num r 8 0 n h (.inl rfl)
/-- The bytes that are taken are the first ones, nine at most. -/
theorem tkGo_rest (f : Nat) : ∀ i l n r, tkGo f i l = some (n, r) → ∃ k, 1 ≤ k ∧ k ≤ f ∧ k ≤ l.length ∧ r = l.drop k ∧ n < 128 ^ k := by
  induction f with
  | zero => intro i l n r h; simp [tkGo] at h
  | succ f ih =>
    intro i l n r h
    cases l with
    | nil => simp [tkGo] at h
    | cons x t =>
      rw [tkGo] at h
      split at h
      · split at h
        · cases h
        · cases h
          refine ⟨1, by omega, by omega, by simp, by simp, by omega⟩
      · cases hm : tkGo f (i + 1) t with
        | none => rw [hm] at h; cases h
        | some p =>
          rw [hm] at h
          obtain ⟨k, h1, h2, h3, h4, h5⟩ := ih _ _ _ _ hm
          simp only [Option.map_some, Option.some.injEq, Prod.mk.injEq] at h
          refine ⟨k + 1, by omega, by omega, by simp only [List.length_cons]; omega, by rw [← h.2, h4]; simp, ?_⟩
          rw [← h.1, Nat.pow_succ]
          omega
/-- Only the first nine bytes count. -/
theorem tkGo_take (f : Nat) : ∀ i (l : List UInt8), (tkGo f i (l.take f)).map (·.1) = (tkGo f i l).map (·.1) := by
  induction f with
  | zero => intro i l; rfl
  | succ f ih =>
    intro i l
    cases l with
    | nil => rfl
    | cons x t =>
      rw [List.take_succ_cons, tkGo, tkGo]
      split
      · split <;> rfl
      · have := ih (i + 1) t
        cases h1 : tkGo f (i + 1) (t.take f) with
        | none =>
          rw [h1] at this
          cases h2 : tkGo f (i + 1) t with
          | none => rfl
          | some p => rw [h2] at this; cases this
        | some p =>
          rw [h1] at this
          cases h2 : tkGo f (i + 1) t with
          | none => rw [h2] at this; cases this
          | some q => rw [h2] at this; simp only [Option.map_some, Option.some.injEq] at this ⊢; rw [this]
def openB (l : List UInt8) : Bool := decide (l.length ≤ 8) && l.all fun x => decide (128 ≤ x.toNat)
theorem tkGo_open (f : Nat) : ∀ i (l : List UInt8), (l.all fun x => decide (128 ≤ x.toNat)) = true → tkGo f i l = none := by
  induction f with
  | zero => intro i l h; rfl
  | succ f ih =>
    intro i l h
    cases l with
    | nil => rfl
    | cons x t =>
      simp only [List.all_cons, Bool.and_eq_true, decide_eq_true_eq] at h
      rw [tkGo, if_neg (by omega), ih _ _ h.2]
      rfl
inductive Nx where
  | whole (x r : List UInt8)
  | torn
  | bad
/-- What stands at the beginning of bytes. -/
def nextM (l : List UInt8) : Nx :=
  if openB l = true then .torn else
  match tk l with
  | none => .bad
  | some (n, r) => if 65536 < n then .bad else if r.length < n + 4 then .torn else if byW 4 (sumN (r.take n)) = (r.drop n).take 4 then .whole (r.take n) (r.drop (n + 4)) else .bad
def frameM (b : List UInt8) : List UInt8 := numW b.length ++ b ++ byW 4 (sumN b)
theorem numW_notopen (n : Nat) (r : List UInt8) : openB (numW n ++ r) = false := by
  have : ∀ k n, n ≤ k → ((numW n).all fun x => decide (128 ≤ x.toNat)) = false := by
    intro k
    induction k with
    | zero => intro n h; have : n = 0 := by omega
              subst this; rw [numW_small (by decide)]; decide
    | succ k ih =>
      intro n h
      by_cases h1 : n < 128
      · have e : (UInt8.ofNat n).toNat = n := by rw [UInt8.toNat_ofNat']; omega
        rw [numW_small h1]
        simp only [List.all_cons, List.all_nil, Bool.and_true, e, decide_eq_false_iff_not]
        omega
      · rw [numW_big h1, List.all_cons, ih (n / 128) (by omega), Bool.and_false]
  unfold openB
  rw [List.all_append, this n n (Nat.le_refl n)]
  simp
theorem next_num (n : Nat) (h : n ≤ 65536) (r : List UInt8) : nextM (numW n ++ r) = if r.length < n + 4 then .torn else if byW 4 (sumN (r.take n)) = (r.drop n).take 4 then .whole (r.take n) (r.drop (n + 4)) else .bad := by
  unfold nextM
  rw [numW_notopen, tk_num n (by omega)]
  simp only [Bool.false_eq_true, if_false]
  rw [if_neg (by omega)]
theorem next_parts (b s r : List UInt8) (hb : b.length ≤ 65536) (hs : s.length = 4) : nextM (numW b.length ++ (b ++ (s ++ r))) = if byW 4 (sumN b) = s then .whole b r else .bad := by
  rw [next_num _ hb, if_neg (by simp only [List.length_append]; omega)]
  have e1 : (b ++ (s ++ r)).take b.length = b := by simp
  have e2 : ((b ++ (s ++ r)).drop b.length).take 4 = s := by rw [List.drop_left, ← hs, List.take_left]
  have e3 : (b ++ (s ++ r)).drop (b.length + 4) = r := by rw [← List.drop_drop, List.drop_left, ← hs, List.drop_left]
  rw [e1, e2, e3]
theorem next_frame (b r : List UInt8) (hb : b.length ≤ 65536) : nextM (frameM b ++ r) = .whole b r := by
  have := next_parts b (byW 4 (sumN b)) r hb (byW_len 4 _)
  rw [if_pos rfl] at this
  rw [← this]
  unfold frameM
  simp only [List.append_assoc]
theorem foldB_byW4 {a b : Nat} (ha : a < 4294967296) (hb : b < 4294967296) (h : byW 4 a = byW 4 b) : a = b := by
  have h1 := foldB_byW 4 a (by simpa using ha)
  have h2 := foldB_byW 4 b (by simpa using hb)
  rw [← h1, ← h2, h]
/-- A byte of the body is another one by a power of two up to 128: the sum is another one. -/
theorem bsum_set (l : List UInt8) : ∀ i (h : i < l.length) (c : UInt8), bsum (l.set i c) + (l[i]).toNat = bsum l + c.toNat := by
  induction l with
  | nil => intro i h; simp at h
  | cons x t ih =>
    intro i h c
    cases i with
    | zero => simp only [List.set_cons_zero, bsum, List.getElem_cons_zero]; omega
    | succ i => simp only [List.set_cons_succ, bsum, List.getElem_cons_succ]; have := ih i (by simpa using h) c; omega
theorem sum_set (l : List UInt8) (i : Nat) (h : i < l.length) (c : UInt8) (hc : c ≠ l[i]) : sumN (l.set i c) ≠ sumN l := by
  intro e
  have e1 : (un (l.set i c) 1 0).1 % 65521 = (un l 1 0).1 % 65521 := by unfold sumN at e; omega
  rw [un_fst, un_fst] at e1
  have e2 := bsum_set l i h c
  have h1 := u8_lt c
  have h2 := u8_lt l[i]
  have h3 : c.toNat ≠ (l[i]).toNat := fun e => hc (UInt8.toNat_inj.1 e)
  omega
/-- A frame of which a byte of the body or of the sum is another one is bad. -/
theorem next_turned (b : List UInt8) (hb : b.length ≤ 65536) (i : Nat) (hi : i < b.length + 4) (c : UInt8) (hc : c ≠ (b ++ byW 4 (sumN b))[i]'(by simp [byW_len]; omega)) :
    nextM ((frameM b).set ((numW b.length).length + i) c) = .bad := by
  have e0 : (frameM b).set ((numW b.length).length + i) c = numW b.length ++ (b ++ byW 4 (sumN b)).set i c := by
    unfold frameM
    rw [List.append_assoc, List.set_append_right _ _ (by omega), Nat.add_sub_cancel_left]
  rw [e0]
  by_cases h : i < b.length
  · rw [List.set_append_left _ _ h]
    have e1 : b.length = (b.set i c).length := by simp
    have := next_parts (b.set i c) (byW 4 (sumN b)) [] (by simpa using hb) (byW_len 4 _)
    rw [List.append_nil, ← e1] at this
    rw [this, if_neg]
    intro e
    have hci : c ≠ b[i] := by rw [List.getElem_append_left h] at hc; exact hc
    exact sum_set b i h c hci (foldB_byW4 (sumN_lt _) (sumN_lt _) e)
  · rw [List.set_append_right _ _ (by omega)]
    have := next_parts b ((byW 4 (sumN b)).set (i - b.length) c) [] hb (by simp [byW_len])
    rw [List.append_nil] at this
    rw [this, if_neg]
    intro e
    rw [List.getElem_append_right (by omega)] at hc
    apply hc
    have hl : i - b.length < (byW 4 (sumN b)).length := by rw [byW_len]; omega
    have e2 := congrArg (fun l : List UInt8 => l[i - b.length]?) e
    simp only [List.getElem?_set_self hl, List.getElem?_eq_getElem hl, Option.some.injEq] at e2
    exact e2.symm
end Go.Proofs.YtofkfafdodhmdaaGreatDoor

/- Plain mathematics: bits of 64-bit ints that are put side by side; the frames of bytes, one behind the other. No program in it. -/
namespace Go.Proofs.YtofkfafdodhmdaaGreatDoor
open Go.RowKit

theorem i64_or_nat (a b : Nat) (ha : a < 9223372036854775808) (hb : b < 9223372036854775808) : bits .or .i64 (a : Int) (b : Int) = ((a ||| b : Nat) : Int) := by
  have hx : a ||| b < 2 ^ 63 := Nat.or_lt_two_pow (by omega) (by omega)
  show IntKind.i64.wrap ((BitVec.ofInt 64 (a : Int) ||| BitVec.ofInt 64 (b : Int)).toNat : Int) = _
  rw [BitVec.toNat_or, ofInt_u64 a (by omega), ofInt_u64 b (by omega), IntKind.wrap_i64]
  omega
/-- A part above all bits that are there. -/
theorem or_part (n y i : Nat) (hn : n < 2 ^ (7 * i)) (hy : y < 128) (hi : i ≤ 8) : bits .or .i64 (n : Int) (((2 ^ (7 * i) * y : Nat) : Int)) = ((n + 2 ^ (7 * i) * y : Nat) : Int) := by
  have hp : (2 : Nat) ^ (7 * i) ≤ 2 ^ 56 := Nat.pow_le_pow_right (by decide) (by omega)
  have hm : 2 ^ (7 * i) * y ≤ 2 ^ 56 * 127 := Nat.mul_le_mul hp (by omega)
  rw [i64_or_nat _ _ (by omega) (by omega), Nat.or_comm, nat_join (7 * i) _ _ (by rw [Nat.mul_mod_right]) hn, Nat.add_comm]
theorem clear_top (x : Nat) (hx : x < 256) : bits .andNot .u8 (x : Int) 128 = ((x % 128 : Nat) : Int) := by
  have := u8_andNot_nat x 128 hx (by decide)
  rw [show ((128 : Nat) : Int) = 128 from rfl] at this
  rw [this]
  have e : x &&& (255 - 128) = x % 2 ^ 7 := Nat.and_two_pow_sub_one_eq_mod _ 7
  rw [e]
/-- High and low numbers of a sum, side by side. -/
theorem or_sum (hi lo : Nat) (h1 : hi < 65521) (h2 : lo < 65521) : bits .or .i64 (((hi * 65536 : Nat) : Int)) (lo : Int) = ((hi * 65536 + lo : Nat) : Int) := by
  rw [i64_or_nat _ _ (by omega) (by omega), nat_join 16 _ _ (by omega) (by omega)]

/-- The frames of bytes, one behind the other: their bytes, how many bytes they take, what stands behind (0, 1, 2: nothing, torn, bad). -/
def allM : Nat → List UInt8 → List (List UInt8) × Nat × Nat
  | 0, _ => ([], 0, 0)
  | f + 1, l => if l = [] then ([], 0, 0) else
    match nextM l with
    | .whole x r => (x :: (allM f r).1, (l.length - r.length) + (allM f r).2.1, (allM f r).2.2)
    | .torn => ([], 0, 1)
    | .bad => ([], 0, 2)
/-- What a whole frame leaves is less. -/
theorem next_less {l x r : List UInt8} (h : nextM l = .whole x r) : ∃ k, 1 ≤ k ∧ k + x.length + 4 ≤ l.length ∧ x = (l.drop k).take x.length ∧ r = l.drop (k + x.length + 4) ∧ x.length ≤ 65536 ∧ k ≤ 9 := by
  unfold nextM at h
  split at h
  · cases h
  · split at h
    · cases h
    · rename_i n t ht
      obtain ⟨k, h1, h2, h3, h4, h5⟩ := tkGo_rest _ _ _ _ _ ht
      split at h
      · cases h
      · split at h
        · cases h
        · split at h
          · rename_i g1 g2 g3
            rw [h4, List.length_drop] at g2
            have e : x = t.take n := by injection h with a b; exact a.symm
            have e2 : r = t.drop (n + 4) := by injection h with a b; exact b.symm
            have el : x.length = n := by rw [e, List.length_take, h4, List.length_drop]; omega
            refine ⟨k, h1, by omega, by rw [el, e, h4], ?_, by omega, h2⟩
            rw [el, e2, h4, List.drop_drop]
            congr 1
          · cases h
theorem next_len {l x r : List UInt8} (h : nextM l = .whole x r) : r.length < l.length := by
  obtain ⟨k, h1, h2, h3, h4, _⟩ := next_less h
  rw [h4, List.length_drop]; omega
/-- More fuel than bytes tells the same. -/
theorem all_fuel (f : Nat) : ∀ g l, l.length ≤ f → l.length ≤ g → allM (f + 1) l = allM (g + 1) l := by
  induction f with
  | zero => intro g l h1 h2; have : l = [] := List.eq_nil_of_length_eq_zero (by omega)
            subst this; rfl
  | succ f ih =>
    intro g l h1 h2
    by_cases he : l = []
    · subst he; rfl
    · cases g with
      | zero => exact absurd (List.eq_nil_of_length_eq_zero (by omega)) he
      | succ g =>
        rw [allM, allM, if_neg he, if_neg he]
        split
        · rename_i x r hn
          have hl := next_len hn
          rw [ih g r (by omega) (by omega)]
        · rfl
        · rfl
def allF (l : List UInt8) : List (List UInt8) × Nat × Nat := allM (l.length + 1) l
theorem allF_nil : allF [] = ([], 0, 0) := rfl
theorem allF_whole {l x r : List UInt8} (h : nextM l = .whole x r) : allF l = (x :: (allF r).1, (l.length - r.length) + (allF r).2.1, (allF r).2.2) := by
  have hl := next_len h
  have he : l ≠ [] := by intro e; rw [e] at hl; simp at hl
  unfold allF
  rw [allM, if_neg he, h]
  simp only
  have e : allM l.length r = allM (r.length + 1) r := by
    have := all_fuel (l.length - 1) r.length r (by omega) (Nat.le_refl _)
    rwa [show l.length - 1 + 1 = l.length by omega] at this
  rw [e]
theorem allF_torn {l : List UInt8} (h : nextM l = .torn) (hl : l ≠ []) : allF l = ([], 0, 1) := by unfold allF; rw [allM, if_neg hl, h]
theorem allF_bad {l : List UInt8} (h : nextM l = .bad) (hl : l ≠ []) : allF l = ([], 0, 2) := by unfold allF; rw [allM, if_neg hl, h]
theorem next_nil : nextM [] = .torn := by unfold nextM; rw [if_pos (by decide)]

/-- Frames, one behind the other. -/
def framesM : List (List UInt8) → List UInt8
  | [] => []
  | b :: t => frameM b ++ framesM t
theorem frames_app (a b : List (List UInt8)) : framesM (a ++ b) = framesM a ++ framesM b := by
  induction a with
  | nil => rfl
  | cons x t ih => simp only [List.cons_append, framesM, ih, List.append_assoc]
theorem frame_len (b : List UInt8) : (frameM b).length = (numW b.length).length + b.length + 4 := by unfold frameM; simp only [List.length_append, byW_len]
/-- What stands behind frames stands there as at the beginning. -/
theorem allF_frames (list : List (List UInt8)) (hl : ∀ b ∈ list, b.length ≤ 65536) (r : List UInt8) : allF (framesM list ++ r) = (list ++ (allF r).1, (framesM list).length + (allF r).2.1, (allF r).2.2) := by
  induction list with
  | nil => simp [framesM]
  | cons b t ih =>
    have h1 : nextM (framesM (b :: t) ++ r) = .whole b (framesM t ++ r) := by
      rw [framesM, List.append_assoc]
      exact next_frame b _ (hl b (by simp))
    rw [allF_whole h1, ih (fun c hc => hl c (by simp [hc]))]
    simp only [List.cons_append, framesM, List.length_append, Prod.mk.injEq, true_and, and_true]
    omega
theorem numW_take_open (k : Nat) : ∀ n, n ≤ k → ∀ j, j < (numW n).length → ((numW n).take j).all (fun x => decide (128 ≤ x.toNat)) = true := by
  induction k with
  | zero => intro n h j hj; have : n = 0 := by omega
            subst this; rw [numW_small (by decide)] at hj ⊢; have : j = 0 := by simpa using hj
            subst this; rfl
  | succ k ih =>
    intro n h j hj
    by_cases h1 : n < 128
    · rw [numW_small h1] at hj ⊢; have : j = 0 := by simpa using hj
      subst this; rfl
    · have e : (UInt8.ofNat (128 + n % 128)).toNat = 128 + n % 128 := by rw [UInt8.toNat_ofNat']; omega
      rw [numW_big h1] at hj ⊢
      cases j with
      | zero => rfl
      | succ j =>
        rw [List.take_succ_cons, List.all_cons, ih (n / 128) (by omega) j (by simpa using hj), e, Bool.and_true, decide_eq_true_eq]
        omega
/-- What is cut off at a frame's end is torn. -/
theorem next_cut (b : List UInt8) (hb : b.length ≤ 65536) (j : Nat) (hj : j < (frameM b).length) : nextM ((frameM b).take j) = .torn := by
  rw [frame_len] at hj
  have hn3 : (numW b.length).length ≤ 3 := numW_len 2 _ (by omega)
  by_cases h : j < (numW b.length).length
  · have e : (frameM b).take j = (numW b.length).take j := by
      unfold frameM
      rw [List.append_assoc, List.take_append_of_le_length (by omega)]
    rw [e]
    unfold nextM
    rw [if_pos]
    unfold openB
    rw [numW_take_open _ _ (Nat.le_refl _) j h, Bool.and_true, decide_eq_true_eq, List.length_take]
    omega
  · have e : (frameM b).take j = numW b.length ++ (b ++ byW 4 (sumN b)).take (j - (numW b.length).length) := by
      unfold frameM
      rw [List.append_assoc, List.take_append, List.take_of_length_le (by omega)]
    rw [e, next_num _ hb, if_pos]
    rw [List.length_take, List.length_append, byW_len]
    omega
/-- Frames that are cut: those that are whole, and what is left is nothing or torn. -/
theorem allF_cut (a : List (List UInt8)) (ha : ∀ b ∈ a, b.length ≤ 65536) (b : List UInt8) (hb : b.length ≤ 65536) (j : Nat) (hj : j < (frameM b).length) :
    allF (framesM a ++ (frameM b).take j) = (a, (framesM a).length, if j = 0 then 0 else 1) := by
  rw [allF_frames a ha]
  by_cases h : j = 0
  · subst h
    rw [List.take_zero, allF_nil]
    simp
  · rw [allF_torn (next_cut b hb j hj)]
    · simp [h]
    · intro e
      have := congrArg List.length e
      rw [List.length_take, List.length_nil] at this
      omega
end Go.Proofs.YtofkfafdodhmdaaGreatDoor

/- States of layer 11 as mathematics: right ones, their bytes, reading them. Conditions: none. -/
namespace Go.Proofs.YtofkfafdodhmdaaGreatDoor
open Go.RowKit

/-- A state: Gen, Applied, Next, Tables. -/
structure Sta where
  g : Int
  a : Int
  n : Int
  t : List Int
def tabsB (n : Int) (l : List Int) : Bool := decide (l.length ≤ 50) && (l.all fun x => decide (1 ≤ x ∧ x < n)) && decide l.Nodup
def Sta.right (s : Sta) : Bool := decide (1 ≤ s.g ∧ s.g ≤ 1099511627776) && decide (0 ≤ s.a ∧ s.a ≤ 1099511627776) && decide (1 ≤ s.n ∧ s.n ≤ 999999) && tabsB s.n s.t
structure Sta.Ok (s : Sta) : Prop where
  g0 : 1 ≤ s.g
  g1 : s.g ≤ 1099511627776
  a0 : 0 ≤ s.a
  a1 : s.a ≤ 1099511627776
  n0 : 1 ≤ s.n
  n1 : s.n ≤ 999999
  tl : s.t.length ≤ 50
  tb : ∀ x ∈ s.t, 1 ≤ x ∧ x < s.n
  tn : s.t.Nodup
theorem tabsB_iff (n : Int) (l : List Int) : tabsB n l = true ↔ l.length ≤ 50 ∧ (∀ x ∈ l, 1 ≤ x ∧ x < n) ∧ l.Nodup := by
  unfold tabsB
  rw [Bool.and_eq_true, Bool.and_eq_true, decide_eq_true_iff, decide_eq_true_iff, List.all_eq_true]
  simp only [decide_eq_true_iff]
  exact and_assoc
theorem Sta.right_iff (s : Sta) : s.right = true ↔ s.Ok := by
  unfold Sta.right
  simp only [Bool.and_eq_true, decide_eq_true_iff, tabsB_iff]
  exact ⟨fun ⟨⟨⟨h1, h2⟩, h3⟩, h4, h5, h6⟩ => ⟨h1.1, h1.2, h2.1, h2.2, h3.1, h3.2, h4, h5, h6⟩, fun h => ⟨⟨⟨⟨h.g0, h.g1⟩, h.a0, h.a1⟩, h.n0, h.n1⟩, h.tl, h.tb, h.tn⟩⟩
/-- A row of numbers, one more: no number twice. -/
theorem tabs_take {n : Int} {l : List Int} {k : Nat} (hk : k < l.length) (hl : l.length ≤ 50) : tabsB n (l.take (k + 1)) = (tabsB n (l.take k) && decide (1 ≤ l[k] ∧ l[k] < n) && !decide (l[k] ∈ l.take k)) := by
  rw [Bool.eq_iff_iff, Bool.and_eq_true, Bool.and_eq_true, tabsB_iff, tabsB_iff, decide_eq_true_iff, Bool.not_eq_true', decide_eq_false_iff_not, List.take_succ_eq_append_getElem hk]
  have h1 : (l.take k).length ≤ 50 := by rw [List.length_take]; omega
  have h2 : (l.take k ++ [l[k]]).length ≤ 50 := by rw [List.length_append, List.length_take]; simp; omega
  constructor
  · rintro ⟨_, hb, hn⟩
    obtain ⟨n1, n2, n3⟩ := List.nodup_append.1 hn
    exact ⟨⟨⟨h1, fun x hx => hb x (List.mem_append_left _ hx), n1⟩, hb _ (List.mem_append_right _ (List.mem_singleton.2 rfl))⟩, fun hm => n3 _ hm _ (List.mem_singleton.2 rfl) rfl⟩
  · rintro ⟨⟨⟨_, hb, hn⟩, hx⟩, hm⟩
    refine ⟨h2, fun x hx2 => ?_, List.nodup_append.2 ⟨hn, by simp, fun a ha b hb2 e => ?_⟩⟩
    · rcases List.mem_append.1 hx2 with q | q
      · exact hb x q
      · rw [List.mem_singleton.1 q]; exact hx
    · rw [List.mem_singleton.1 hb2] at e
      exact hm (e ▸ ha)
theorem tabs_more {n : Int} {l : List Int} (hl : l.length ≤ 50) (k : Nat) (h : tabsB n (l.take k) = false) : tabsB n l = false := by
  cases q : tabsB n l with
  | false => rfl
  | true =>
    obtain ⟨h1, h2, h3⟩ := (tabsB_iff _ _).1 q
    have : tabsB n (l.take k) = true := (tabsB_iff _ _).2 ⟨by rw [List.length_take]; omega, fun x hx => h2 x (List.mem_of_mem_take hx), h3.sublist (List.take_sublist _ _)⟩
    rw [this] at h
    cases h
theorem tabs_long {n : Int} {l : List Int} (hl : 50 < l.length) : tabsB n l = false := by
  cases q : tabsB n l with
  | false => rfl
  | true => have := ((tabsB_iff _ _).1 q).1; omega
theorem tabs_nil (n : Int) : tabsB n [] = true := (tabsB_iff _ _).2 ⟨Nat.zero_le _, fun x hx => (by cases hx), List.nodup_nil⟩

/-- Its numbers. -/
def Sta.nums (s : Sta) : List Int := s.g :: s.a :: s.n :: (s.t.length : Int) :: s.t
def numsW : List Int → List UInt8
  | [] => []
  | x :: t => numW x.toNat ++ numsW t
theorem numsW_app : ∀ a b : List Int, numsW (a ++ b) = numsW a ++ numsW b
  | [], _ => rfl
  | x :: t, b => by show numW _ ++ numsW (t ++ b) = (numW _ ++ numsW t) ++ numsW b; rw [numsW_app t b, List.append_assoc]
def Sta.enc (s : Sta) : List UInt8 := numsW s.nums
/-- All the numbers of bytes. -/
def takes : Nat → List UInt8 → Option (List Int)
  | 0, l => if l = [] then some [] else none
  | f + 1, l => if l = [] then some [] else match tk l with
    | some (n, r) => (takes f r).map fun t => (n : Int) :: t
    | none => none
def takesF (l : List UInt8) : Option (List Int) := takes l.length l
theorem tk_less {l r : List UInt8} {n : Nat} (h : tk l = some (n, r)) : r.length < l.length ∧ (∃ k, 1 ≤ k ∧ k ≤ 9 ∧ k ≤ l.length ∧ r = l.drop k) ∧ n < 9223372036854775808 := by
  obtain ⟨k, h1, h2, h3, h4, h5⟩ := tkGo_rest 9 0 l n r h
  refine ⟨by rw [h4, List.length_drop]; omega, ⟨k, h1, h2, h3, h4⟩, Nat.lt_of_lt_of_le h5 ?_⟩
  calc 128 ^ k ≤ 128 ^ 9 := Nat.pow_le_pow_right (by decide) h2
    _ = 9223372036854775808 := by decide
theorem takes_fuel : ∀ (f g : Nat) (l : List UInt8), l.length ≤ f → l.length ≤ g → takes f l = takes g l
  | 0, 0, _, _, _ => rfl
  | 0, g + 1, l, h, _ => by
    have : l = [] := List.eq_nil_of_length_eq_zero (by omega)
    subst this
    rfl
  | f + 1, 0, l, _, h => by
    have : l = [] := List.eq_nil_of_length_eq_zero (by omega)
    subst this
    rfl
  | f + 1, g + 1, l, h1, h2 => by
    unfold takes
    by_cases q : l = []
    · rw [if_pos q, if_pos q]
    · rw [if_neg q, if_neg q]
      cases ht : tk l with
      | none => rfl
      | some p =>
        obtain ⟨n, r⟩ := p
        have := (tk_less ht).1
        show (takes f r).map _ = (takes g r).map _
        rw [takes_fuel f g r (by omega) (by omega)]
theorem takesF_nil : takesF [] = some [] := rfl
theorem takesF_some {l r : List UInt8} {n : Nat} (h : tk l = some (n, r)) : takesF l = (takesF r).map fun t => (n : Int) :: t := by
  have hl := (tk_less h).1
  unfold takesF
  obtain ⟨f, hf⟩ : ∃ f, l.length = f + 1 := ⟨l.length - 1, by omega⟩
  rw [hf]
  show (if l = [] then some [] else match tk l with | some (n, r) => (takes f r).map fun t => (n : Int) :: t | none => none) = _
  rw [if_neg (fun e => by rw [e] at hl; exact absurd hl (by simp)), h]
  show (takes f r).map _ = _
  rw [takes_fuel f r.length r (by omega) (Nat.le_refl _)]
theorem takesF_none {l : List UInt8} (h0 : l ≠ []) (h : tk l = none) : takesF l = none := by
  unfold takesF
  cases l with
  | nil => exact absurd rfl h0
  | cons x t =>
    show (if x :: t = [] then some [] else match tk (x :: t) with | some (n, r) => (takes t.length r).map fun t => (n : Int) :: t | none => none) = _
    rw [if_neg h0, h]
theorem takesF_nums : ∀ l : List Int, (∀ x ∈ l, 0 ≤ x ∧ x < 9223372036854775808) → takesF (numsW l) = some l
  | [], _ => rfl
  | x :: t, h => by
    have hx := h x List.mem_cons_self
    show takesF (numW x.toNat ++ numsW t) = _
    rw [takesF_some (tk_num x.toNat (by omega) (numsW t)), takesF_nums t fun y hy => h y (List.mem_cons_of_mem _ hy)]
    show some ((x.toNat : Int) :: t) = _
    rw [Int.toNat_of_nonneg hx.1]
theorem takes_bound : ∀ (f : Nat) (l : List UInt8) (t : List Int), takes f l = some t → ∀ x ∈ t, 0 ≤ x ∧ x < 9223372036854775808
  | 0, l, t, h, x, hx => by
    unfold takes at h
    by_cases q : l = []
    · rw [if_pos q] at h
      cases h
      cases hx
    · rw [if_neg q] at h
      cases h
  | f + 1, l, t, h, x, hx => by
    unfold takes at h
    by_cases q : l = []
    · rw [if_pos q] at h
      cases h
      cases hx
    · rw [if_neg q] at h
      cases ht : tk l with
      | none => rw [ht] at h; cases h
      | some p =>
        obtain ⟨n, r⟩ := p
        rw [ht] at h
        have h' : (takes f r).map (fun t => (n : Int) :: t) = some t := h
        obtain ⟨t', h1, h2⟩ := Option.map_eq_some_iff.1 h'
        subst h2
        have := (tk_less ht).2.2
        rcases List.mem_cons.1 hx with e | e
        · omega
        · exact takes_bound f r t' h1 x e
theorem takes_len : ∀ (f : Nat) (l : List UInt8) (t : List Int), takes f l = some t → t.length ≤ l.length
  | 0, l, t, h => by
    unfold takes at h
    by_cases q : l = []
    · rw [if_pos q] at h
      cases h
      exact Nat.zero_le _
    · rw [if_neg q] at h
      cases h
  | f + 1, l, t, h => by
    unfold takes at h
    by_cases q : l = []
    · rw [if_pos q] at h
      cases h
      exact Nat.zero_le _
    · rw [if_neg q] at h
      cases ht : tk l with
      | none => rw [ht] at h; cases h
      | some p =>
        obtain ⟨n, r⟩ := p
        rw [ht] at h
        have h' : (takes f r).map (fun t => (n : Int) :: t) = some t := h
        obtain ⟨t', h1, h2⟩ := Option.map_eq_some_iff.1 h'
        subst h2
        have h3 := (tk_less ht).1
        have h4 := takes_len f r t' h1
        rw [List.length_cons]
        omega
/-- A state out of numbers. -/
def staOf : List Int → Option Sta
  | g :: a :: n :: k :: t => if k = (t.length : Int) ∧ (⟨g, a, n, t⟩ : Sta).right = true then some ⟨g, a, n, t⟩ else none
  | _ => none
def decS (l : List UInt8) : Option Sta := (takesF l).bind staOf
theorem nums_in {s : Sta} (h : s.Ok) : ∀ x ∈ s.nums, 0 ≤ x ∧ x < 9223372036854775808 := fun x hx => by
  have h1 := h.g0; have h2 := h.g1; have h3 := h.a0; have h4 := h.a1; have h5 := h.n0; have h6 := h.n1; have h7 := h.tl
  unfold Sta.nums at hx
  simp only [List.mem_cons] at hx
  rcases hx with e | e | e | e | e
  · omega
  · omega
  · omega
  · omega
  · have := h.tb x e
    omega
/-- A right state comes back from its bytes. -/
theorem dec_enc {s : Sta} (h : s.right = true) : decS s.enc = some s := by
  have hk := (s.right_iff).1 h
  unfold decS Sta.enc
  rw [takesF_nums _ (nums_in hk)]
  show (if (s.t.length : Int) = (s.t.length : Int) ∧ s.right = true then some s else none) = some s
  rw [if_pos ⟨rfl, h⟩]
theorem dec_right {l : List UInt8} {s : Sta} (h : decS l = some s) : s.right = true := by
  unfold decS at h
  obtain ⟨t, h1, h2⟩ := Option.bind_eq_some_iff.1 h
  unfold staOf at h2
  split at h2
  · rename_i g a n k t
    by_cases q : k = (t.length : Int) ∧ (⟨g, a, n, t⟩ : Sta).right = true
    · rw [if_pos q] at h2
      cases h2
      exact q.2
    · rw [if_neg q] at h2
      cases h2
  · cases h2
/-- The state ahead of all. -/
def sta0 : Sta := ⟨0, 0, 1, []⟩
def staZ : Sta := ⟨0, 0, 0, []⟩
/-- States, one behind the other: the last one. -/
def foldS : Bool → Sta → List (List UInt8) → Option Sta
  | _, s, [] => some s
  | fst, s, b :: r => match decS b with
    | some x => if fst = true ∨ x.g = s.g + 1 then foldS false x r else none
    | none => none
theorem foldS_cons (f : Bool) (s : Sta) (b : List UInt8) (r : List (List UInt8)) : foldS f s (b :: r) = match decS b with
    | some x => if f = true ∨ x.g = s.g + 1 then foldS false x r else none
    | none => none := rfl
theorem foldS_app : ∀ (l m : List (List UInt8)) (f : Bool) (s : Sta), foldS f s (l ++ m) = (foldS f s l).bind fun s' => foldS (f && l.isEmpty) s' m
  | [], m, f, s => by show foldS f s m = foldS (f && true) s m; rw [Bool.and_true]
  | b :: r, m, f, s => by
    show foldS f s (b :: (r ++ m)) = (foldS f s (b :: r)).bind fun s' => foldS (f && false) s' m
    rw [foldS_cons, foldS_cons]
    cases hd : decS b with
    | none => rfl
    | some x =>
      show (if f = true ∨ x.g = s.g + 1 then foldS false x (r ++ m) else none) = Option.bind (if f = true ∨ x.g = s.g + 1 then foldS false x r else none) _
      by_cases q : f = true ∨ x.g = s.g + 1
      · rw [if_pos q, if_pos q, foldS_app r m false x, Bool.and_false]
        rfl
      · rw [if_neg q, if_neg q]
        rfl
theorem foldS_right : ∀ (l : List (List UInt8)) (f : Bool) (s x : Sta), l ≠ [] → foldS f s l = some x → x.right = true
  | b :: r, f, s, x, _, h => by
    unfold foldS at h
    cases hd : decS b with
    | none => rw [hd] at h; cases h
    | some y =>
      rw [hd] at h
      have h' : (if f = true ∨ y.g = s.g + 1 then foldS false y r else none) = some x := h
      by_cases q : f = true ∨ y.g = s.g + 1
      · rw [if_pos q] at h'
        cases r with
        | nil =>
          have : y = x := by unfold foldS at h'; exact Option.some.inj h'
          rw [← this]
          exact dec_right hd
        | cons c t => exact foldS_right (c :: t) false y x (by simp) h'
      · rw [if_neg q] at h'
        cases h'
/-- A manifest's bytes read: the last state, and how many bytes. -/
def readS (l : List UInt8) : Option (Sta × Nat) := if (allF l).2.2 = 2 then none else (foldS true sta0 (allF l).1).map fun s => (s, (allF l).2.1)
end Go.Proofs.YtofkfafdodhmdaaGreatDoor
