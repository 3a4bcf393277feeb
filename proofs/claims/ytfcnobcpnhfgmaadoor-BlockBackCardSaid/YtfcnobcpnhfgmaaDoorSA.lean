/- Plain mathematics of sums and frames: the two numbers of a sum, numbers as bytes, what stands at the beginning of bytes, and what a turned bit does. No program in it. -/
import Derived.Test.YtfcnobcpnhfgmaaDoorFK
namespace Go.Proofs.YtfcnobcpnhfgmaaDoor
open Go.RowKit

/-- The two numbers of bytes, not brought below the base. -/
def un : List UInt8 → Nat → Nat → Nat × Nat
  | [], x, y => (x, y)
  | c :: r, x, y => un r (x + c.toNat) (y + (x + c.toNat))
theorem un_app (a b : List UInt8) : ∀ x y, un (a ++ b) x y = un b (un a x y).1 (un a x y).2 := by
  induction a with
  | nil => intro x y; rfl
  | cons c r ih => intro x y; simp only [List.cons_append, un]; exact ih _ _
theorem un_mod (l : List UInt8) : ∀ x y x' y' : Nat, x % 65521 = x' % 65521 → y % 65521 = y' % 65521 → (un l x y).1 % 65521 = (un l x' y').1 % 65521 ∧ (un l x y).2 % 65521 = (un l x' y').2 % 65521 := by
  induction l with
  | nil => intro x y x' y' h1 h2; exact ⟨h1, h2⟩
  | cons c r ih => intro x y x' y' h1 h2; exact ih _ _ _ _ (by omega) (by omega)
def bsum : List UInt8 → Nat
  | [] => 0
  | c :: r => c.toNat + bsum r
theorem un_fst (l : List UInt8) : ∀ x y, (un l x y).1 = x + bsum l := by
  induction l with
  | nil => intro x y; rfl
  | cons c r ih => intro x y; simp only [un, bsum]; rw [ih]; omega
theorem u8_lt (c : UInt8) : c.toNat < 256 := c.toNat_lt
theorem bsum_le (l : List UInt8) : bsum l ≤ 255 * l.length := by
  induction l with
  | nil => simp [bsum]
  | cons c r ih => simp only [bsum, List.length_cons]; have := u8_lt c; omega
theorem un_snd (l : List UInt8) : ∀ x y, (un l x y).2 ≤ y + l.length * (x + 255 * l.length) := by
  induction l with
  | nil => intro x y; simp [un]
  | cons c r ih =>
    intro x y
    simp only [un, List.length_cons]
    have h := ih (x + c.toNat) (y + (x + c.toNat))
    have hc := u8_lt c
    have e1 : r.length * (x + c.toNat + 255 * r.length) ≤ r.length * (x + 255 * (r.length + 1)) := Nat.mul_le_mul_left _ (by omega)
    have e2 : (r.length + 1) * (x + 255 * (r.length + 1)) = r.length * (x + 255 * (r.length + 1)) + (x + 255 * (r.length + 1)) := by rw [Nat.add_mul, Nat.one_mul]
    omega
def sumN (l : List UInt8) : Nat := (un l 1 0).2 % 65521 * 65536 + (un l 1 0).1 % 65521
theorem sumN_lt (l : List UInt8) : sumN l < 4294967296 := by unfold sumN; omega
theorem sumN_nil : sumN [] = 1 := by decide

/-- A number's bytes. -/
def numW (n : Nat) : List UInt8 := if n < 128 then [UInt8.ofNat n] else UInt8.ofNat (128 + n % 128) :: numW (n / 128)
termination_by n
decreasing_by omega
theorem numW_small {n : Nat} (h : n < 128) : numW n = [UInt8.ofNat n] := by rw [numW, if_pos h]
theorem numW_big {n : Nat} (h : ¬ n < 128) : numW n = UInt8.ofNat (128 + n % 128) :: numW (n / 128) := by rw [numW, if_neg h]
theorem numW_len (k : Nat) : ∀ n, n < 128 ^ (k + 1) → (numW n).length ≤ k + 1 := by
  induction k with
  | zero => intro n h; rw [numW_small (by simpa using h)]; simp
  | succ k ih =>
    intro n h
    by_cases h1 : n < 128
    · rw [numW_small h1]; simp
    · rw [numW_big h1, List.length_cons]
      have := ih (n / 128) (by rw [Nat.div_lt_iff_lt_mul (by decide)]; rw [Nat.pow_succ] at h; exact h)
      omega
theorem numW_pos (n : Nat) : 1 ≤ (numW n).length := by rw [numW]; split <;> simp
/-- The number at the beginning of bytes: f bytes at most, i of them gone. -/
def tkGo : Nat → Nat → List UInt8 → Option (Nat × List UInt8)
  | 0, _, _ => none
  | _ + 1, _, [] => none
  | f + 1, i, x :: r => if x.toNat < 128 then (if x.toNat = 0 ∧ i ≠ 0 then none else some (x.toNat, r)) else (tkGo f (i + 1) r).map fun p => (x.toNat % 128 + 128 * p.1, p.2)
def tk (l : List UInt8) : Option (Nat × List UInt8) := tkGo 9 0 l
theorem tkGo_num (r : List UInt8) (f : Nat) : ∀ i n, n < 128 ^ (f + 1) → (i = 0 ∨ n ≠ 0) → tkGo (f + 1) i (numW n ++ r) = some (n, r) := by
  induction f with
  | zero =>
    intro i n h h2
    have h1 : n < 128 := by simpa using h
    have e : (UInt8.ofNat n).toNat = n := by rw [UInt8.toNat_ofNat']; omega
    rw [numW_small h1]
    simp only [List.cons_append, List.nil_append, tkGo, e]
    rw [if_pos h1, if_neg (by omega)]
  | succ f ih =>
    intro i n h h2
    by_cases h1 : n < 128
    · have e : (UInt8.ofNat n).toNat = n := by rw [UInt8.toNat_ofNat']; omega
      rw [numW_small h1]
      simp only [List.cons_append, List.nil_append, tkGo, e]
      rw [if_pos h1, if_neg (by omega)]
    · have e : (UInt8.ofNat (128 + n % 128)).toNat = 128 + n % 128 := by rw [UInt8.toNat_ofNat']; omega
      rw [numW_big h1]
      simp only [List.cons_append]
      rw [tkGo, e, if_neg (by omega), ih (i + 1) (n / 128) (by rw [Nat.div_lt_iff_lt_mul (by decide)]; rw [Nat.pow_succ] at h; exact h) (.inr (by omega))]
      simp only [Option.map_some, Option.some.injEq, Prod.mk.injEq, and_true]
      omega
theorem tk_num (n : Nat) (h : n < 9223372036854775808) (r : List UInt8) : tk (numW n ++ r) = some (n, r) := tkGo_num r 8 0 n h (.inl rfl)
/-- The bytes that are taken are the first ones, nine at most. -/
theorem tkGo_rest (f : Nat) : ∀ i l n r, tkGo f i l = some (n, r) → ∃ k, 1 ≤ k ∧ k ≤ f ∧ k ≤ l.length ∧ r = l.drop k ∧ n < 128 ^ k := by
  induction f with
  | zero => intro i l n r h; simp [tkGo] at h
  | succ f ih =>
    intro i l n r h
    cases l with
    | nil => simp [tkGo] at h
    | cons x t =>
      rw [tkGo] at h
      split at h
      · split at h
        · cases h
        · cases h
          refine ⟨1, by omega, by omega, by simp, by simp, by omega⟩
      · cases hm : tkGo f (i + 1) t with
        | none => rw [hm] at h; cases h
        | some p =>
          rw [hm] at h
          obtain ⟨k, h1, h2, h3, h4, h5⟩ := ih _ _ _ _ hm
          simp only [Option.map_some, Option.some.injEq, Prod.mk.injEq] at h
          refine ⟨k + 1, by omega, by omega, by simp only [List.length_cons]; omega, by rw [← h.2, h4]; simp, ?_⟩
          rw [← h.1, Nat.pow_succ]
          omega
/-- Only the first nine bytes count. -/
theorem tkGo_take (f : Nat) : ∀ i (l : List UInt8), (tkGo f i (l.take f)).map (·.1) = (tkGo f i l).map (·.1) := by
  induction f with
  | zero => intro i l; rfl
  | succ f ih =>
    intro i l
    cases l with
    | nil => rfl
    | cons x t =>
      rw [List.take_succ_cons, tkGo, tkGo]
      split
      · split <;> rfl
      · have := ih (i + 1) t
        cases h1 : tkGo f (i + 1) (t.take f) with
        | none =>
          rw [h1] at this
          cases h2 : tkGo f (i + 1) t with
          | none => rfl
          | some p => rw [h2] at this; cases this
        | some p =>
          rw [h1] at this
          cases h2 : tkGo f (i + 1) t with
          | none => rw [h2] at this; cases this
          | some q => rw [h2] at this; simp only [Option.map_some, Option.some.injEq] at this ⊢; rw [this]
def openB (l : List UInt8) : Bool := decide (l.length ≤ 8) && l.all fun x => decide (128 ≤ x.toNat)
theorem tkGo_open (f : Nat) : ∀ i (l : List UInt8), (l.all fun x => decide (128 ≤ x.toNat)) = true → tkGo f i l = none := by
  induction f with
  | zero => intro i l h; rfl
  | succ f ih =>
    intro i l h
    cases l with
    | nil => rfl
    | cons x t =>
      simp only [List.all_cons, Bool.and_eq_true, decide_eq_true_eq] at h
      rw [tkGo, if_neg (by omega), ih _ _ h.2]
      rfl
inductive Nx where
  | whole (x r : List UInt8)
  | torn
  | bad
/-- What stands at the beginning of bytes. -/
def nextM (l : List UInt8) : Nx :=
  if openB l = true then .torn else
  match tk l with
  | none => .bad
  | some (n, r) => if 65536 < n then .bad else if r.length < n + 4 then .torn else if byW 4 (sumN (r.take n)) = (r.drop n).take 4 then .whole (r.take n) (r.drop (n + 4)) else .bad
def frameM (b : List UInt8) : List UInt8 := numW b.length ++ b ++ byW 4 (sumN b)
theorem numW_notopen (n : Nat) (r : List UInt8) : openB (numW n ++ r) = false := by
  have : ∀ k n, n ≤ k → ((numW n).all fun x => decide (128 ≤ x.toNat)) = false := by
    intro k
    induction k with
    | zero => intro n h; have : n = 0 := by omega
              subst this; rw [numW_small (by decide)]; decide
    | succ k ih =>
      intro n h
      by_cases h1 : n < 128
      · have e : (UInt8.ofNat n).toNat = n := by rw [UInt8.toNat_ofNat']; omega
        rw [numW_small h1]
        simp only [List.all_cons, List.all_nil, Bool.and_true, e, decide_eq_false_iff_not]
        omega
      · rw [numW_big h1, List.all_cons, ih (n / 128) (by omega), Bool.and_false]
  unfold openB
  rw [List.all_append, this n n (Nat.le_refl n)]
  simp
theorem next_num (n : Nat) (h : n ≤ 65536) (r : List UInt8) : nextM (numW n ++ r) = if r.length < n + 4 then .torn else if byW 4 (sumN (r.take n)) = (r.drop n).take 4 then .whole (r.take n) (r.drop (n + 4)) else .bad := by
  unfold nextM
  rw [numW_notopen, tk_num n (by omega)]
  simp only [Bool.false_eq_true, if_false]
  rw [if_neg (by omega)]
theorem next_parts (b s r : List UInt8) (hb : b.length ≤ 65536) (hs : s.length = 4) : nextM (numW b.length ++ (b ++ (s ++ r))) = if byW 4 (sumN b) = s then .whole b r else .bad := by
  rw [next_num _ hb, if_neg (by simp only [List.length_append]; omega)]
  have e1 : (b ++ (s ++ r)).take b.length = b := by simp
  have e2 : ((b ++ (s ++ r)).drop b.length).take 4 = s := by rw [List.drop_left, ← hs, List.take_left]
  have e3 : (b ++ (s ++ r)).drop (b.length + 4) = r := by rw [← List.drop_drop, List.drop_left, ← hs, List.drop_left]
  rw [e1, e2, e3]
theorem next_frame (b r : List UInt8) (hb : b.length ≤ 65536) : nextM (frameM b ++ r) = .whole b r := by
  have := next_parts b (byW 4 (sumN b)) r hb (byW_len 4 _)
  rw [if_pos rfl] at this
  rw [← this]
  unfold frameM
  simp only [List.append_assoc]
theorem foldB_byW4 {a b : Nat} (ha : a < 4294967296) (hb : b < 4294967296) (h : byW 4 a = byW 4 b) : a = b := by
  have h1 := foldB_byW 4 a (by simpa using ha)
  have h2 := foldB_byW 4 b (by simpa using hb)
  rw [← h1, ← h2, h]
/-- A byte of the body is another one by a power of two up to 128: the sum is another one. -/
theorem bsum_set (l : List UInt8) : ∀ i (h : i < l.length) (c : UInt8), bsum (l.set i c) + (l[i]).toNat = bsum l + c.toNat := by
  induction l with
  | nil => intro i h; simp at h
  | cons x t ih =>
    intro i h c
    cases i with
    | zero => simp only [List.set_cons_zero, bsum, List.getElem_cons_zero]; omega
    | succ i => simp only [List.set_cons_succ, bsum, List.getElem_cons_succ]; have := ih i (by simpa using h) c; omega
theorem sum_set (l : List UInt8) (i : Nat) (h : i < l.length) (c : UInt8) (hc : c ≠ l[i]) : sumN (l.set i c) ≠ sumN l := by
  intro e
  have e1 : (un (l.set i c) 1 0).1 % 65521 = (un l 1 0).1 % 65521 := by unfold sumN at e; omega
  rw [un_fst, un_fst] at e1
  have e2 := bsum_set l i h c
  have h1 := u8_lt c
  have h2 := u8_lt l[i]
  have h3 : c.toNat ≠ (l[i]).toNat := fun e => hc (UInt8.toNat_inj.1 e)
  omega
/-- A frame of which a byte of the body or of the sum is another one is bad. -/
theorem next_turned (b : List UInt8) (hb : b.length ≤ 65536) (i : Nat) (hi : i < b.length + 4) (c : UInt8) (hc : c ≠ (b ++ byW 4 (sumN b))[i]'(by simp [byW_len]; omega)) :
    nextM ((frameM b).set ((numW b.length).length + i) c) = .bad := by
  have e0 : (frameM b).set ((numW b.length).length + i) c = numW b.length ++ (b ++ byW 4 (sumN b)).set i c := by
    unfold frameM
    rw [List.append_assoc, List.set_append_right _ _ (by omega), Nat.add_sub_cancel_left]
  rw [e0]
  by_cases h : i < b.length
  · rw [List.set_append_left _ _ h]
    have e1 : b.length = (b.set i c).length := by simp
    have := next_parts (b.set i c) (byW 4 (sumN b)) [] (by simpa using hb) (byW_len 4 _)
    rw [List.append_nil, ← e1] at this
    rw [this, if_neg]
    intro e
    have hci : c ≠ b[i] := by rw [List.getElem_append_left h] at hc; exact hc
    exact sum_set b i h c hci (foldB_byW4 (sumN_lt _) (sumN_lt _) e)
  · rw [List.set_append_right _ _ (by omega)]
    have := next_parts b ((byW 4 (sumN b)).set (i - b.length) c) [] hb (by simp [byW_len])
    rw [List.append_nil] at this
    rw [this, if_neg]
    intro e
    rw [List.getElem_append_right (by omega)] at hc
    apply hc
    have hl : i - b.length < (byW 4 (sumN b)).length := by rw [byW_len]; omega
    have e2 := congrArg (fun l : List UInt8 => l[i - b.length]?) e
    simp only [List.getElem?_set_self hl, List.getElem?_eq_getElem hl, Option.some.injEq] at e2
    exact e2.symm
end Go.Proofs.YtfcnobcpnhfgmaaDoor
