/- Plain mathematics of 64 bits as floats, without the program: NaN, the order of IEEE doubles by their bits, ranks, turned bits. No conditions but the ranges that each lemma names. -/
import Derived.Laws.BitsAllLaws
import Derived.Laws.Bits64
import Derived.Laws.Cover2
import Derived.IntWalk
namespace Go.Proofs.YtfcnobcpnhfgmaaDoor
open Go.RowKit (wrap64)

/-- Are these bits a NaN's? -/
def nanB (n : Int) : Bool := decide (9218868437227405312 < n % 9223372036854775808)
def canonI (n : Int) : Int := if nanB n = true then 9221120237041090560 else n
def rightB (n : Int) : Bool := (n == 9221120237041090560) || !nanB n
def rankI (n : Int) : Int := if n < 0 then -1 - n else n + 9223372036854775808
def cmpI (a b : Int) : Int := if a < b then -1 else if b < a then 1 else 0
def ordI (a b : Int) : Int := cmpI (rankI (canonI a)) (rankI (canonI b))
def wd (n : Int) : Nat := (n % 18446744073709551616).toNat
/-- The other sign. -/
def flipI (n : Int) : Int := if n < 0 then n + 9223372036854775808 else n - 9223372036854775808
def inI (n : Int) : Prop := -9223372036854775808 ≤ n ∧ n < 9223372036854775808

theorem wd_lt (n : Int) : wd n < 18446744073709551616 := by unfold wd; omega
theorem wd_u64 (n : Int) : (IntKind.u64.wrap n).toNat = wd n := by rw [IntKind.wrap_u64]; rfl
theorem wd_mod (n : Int) : ((wd n % 9223372036854775808 : Nat) : Int) = n % 9223372036854775808 := by unfold wd; omega
theorem wrap64_wd {n : Int} (h : inI n) : wrap64 (wd n : Int) = n := by unfold wd wrap64 inI at *; omega

theorem width63 : Ieee.double.signWeight = 9223372036854775808 := by decide
theorem inf_rung : Ieee.double.infRung = 9218868437227405312 := by decide
theorem binade52 : Ieee.double.binade = 4503599627370496 := by decide
theorem f64_format : FloatKind.f64.format = Ieee.double := rfl

/-- The size of the number of a rung, in units of the least number. -/
def mg (r : Nat) : Nat := if r < 4503599627370496 then r else (4503599627370496 + r % 4503599627370496) * 2 ^ (r / 4503599627370496 - 1)

theorem mg_mono {a b : Nat} (h : a < b) : mg a < mg b := by
  unfold mg
  by_cases ha : a < 4503599627370496
  · rw [if_pos ha]
    by_cases hb : b < 4503599627370496
    · rw [if_pos hb]; exact h
    · rw [if_neg hb]
      have : 1 ≤ 2 ^ (b / 4503599627370496 - 1) := Nat.one_le_two_pow
      calc a < 4503599627370496 := ha
        _ ≤ (4503599627370496 + b % 4503599627370496) * 1 := by omega
        _ ≤ _ := Nat.mul_le_mul_left _ this
  · rw [if_neg ha, if_neg (by omega)]
    obtain ⟨q, hq⟩ : ∃ q, a / 4503599627370496 = q + 1 := ⟨a / 4503599627370496 - 1, by omega⟩
    obtain ⟨q', hq'⟩ : ∃ q', b / 4503599627370496 = q' + 1 := ⟨b / 4503599627370496 - 1, by omega⟩
    rw [hq, hq', Nat.add_sub_cancel, Nat.add_sub_cancel]
    have hle : q ≤ q' := by omega
    by_cases he : q = q'
    · subst he
      exact Nat.mul_lt_mul_of_pos_right (by omega) (Nat.two_pow_pos _)
    · have h1 : 2 ^ (q + 1) ≤ 2 ^ q' := Nat.pow_le_pow_right (by omega) (by omega)
      have h2 : (4503599627370496 + a % 4503599627370496) * 2 ^ q < 4503599627370496 * 2 ^ (q + 1) := by
        rw [Nat.pow_succ, Nat.mul_comm (2 ^ q) 2, ← Nat.mul_assoc]
        exact Nat.mul_lt_mul_of_pos_right (by omega) (Nat.two_pow_pos _)
      calc _ < 4503599627370496 * 2 ^ (q + 1) := h2
        _ ≤ 4503599627370496 * 2 ^ q' := Nat.mul_le_mul_left _ h1
        _ ≤ _ := Nat.mul_le_mul_right _ (by omega)

/-- The signed size: what the number is, in units of the least number. -/
def sg (neg : Bool) (r : Nat) : Int := if neg then -(mg r : Int) else (mg r : Int)

theorem read_cases (u : Nat) :
    (∃ m p, Ieee.double.read u = .number (u / 9223372036854775808 % 2 == 1) m p ∧ u % 9223372036854775808 < 9218868437227405312 ∧ Ieee.double.leastPlace ≤ p ∧ m <<< (p - Ieee.double.leastPlace).toNat = mg (u % 9223372036854775808)) ∨
    (Ieee.double.read u = .infinity (u / 9223372036854775808 % 2 == 1) ∧ u % 9223372036854775808 = 9218868437227405312) ∨
    (∃ t, Ieee.double.read u = .nan (u / 9223372036854775808 % 2 == 1) t ∧ 9218868437227405312 < u % 9223372036854775808) := by
  have key : Ieee.double.read u = (if u % 9223372036854775808 < 4503599627370496 then .number (u / 9223372036854775808 % 2 == 1) (u % 9223372036854775808) Ieee.double.leastPlace
    else if u % 9223372036854775808 < 9218868437227405312 then
    .number (u / 9223372036854775808 % 2 == 1) (4503599627370496 + u % 9223372036854775808 % 4503599627370496) (Ieee.double.leastPlace + (u % 9223372036854775808 / 4503599627370496 - 1 : Nat))
  else if u % 9223372036854775808 = 9218868437227405312 then .infinity (u / 9223372036854775808 % 2 == 1)
  else .nan (u / 9223372036854775808 % 2 == 1) (u % 9223372036854775808 - 9218868437227405312)) := by
    unfold Ieee.Format.read
    rw [width63, inf_rung, binade52]
  rw [key]
  by_cases h1 : u % 9223372036854775808 < 4503599627370496
  · refine Or.inl ⟨u % 9223372036854775808, Ieee.double.leastPlace, by rw [if_pos h1], by omega, Int.le_refl _, ?_⟩
    unfold mg
    rw [if_pos h1, Int.sub_self]
    rfl
  · rw [if_neg h1]
    by_cases h2 : u % 9223372036854775808 < 9218868437227405312
    · refine Or.inl ⟨_, _, by rw [if_pos h2], h2, by omega, ?_⟩
      unfold mg
      rw [if_neg h1, Nat.shiftLeft_eq]
      congr 2
      omega
    · rw [if_neg h2]
      by_cases h3 : u % 9223372036854775808 = 9218868437227405312
      · exact Or.inr (Or.inl ⟨by rw [if_pos h3], h3⟩)
      · exact Or.inr (Or.inr ⟨_, by rw [if_neg h3], by omega⟩)

theorem order_nan (u : Nat) : (FloatKind.f64.format.order u u != some Ordering.eq) = nanB (u : Int) := by
  rw [f64_format]
  unfold Ieee.Format.order nanB
  have hc : ((u : Int) % 9223372036854775808) = ((u % 9223372036854775808 : Nat) : Int) := by omega
  rcases read_cases u with ⟨m, p, hr, hlt, _, _⟩ | ⟨hr, he⟩ | ⟨t, hr, hlt⟩
  · rw [hr, decide_eq_false (by omega)]
    simp [Ieee.Datum.order]
  · rw [hr, decide_eq_false (by omega)]
    simp [Ieee.Datum.order]
  · rw [hr, decide_eq_true (by omega)]
    simp [Ieee.Datum.order]

/-- The place in the language's order of what is no NaN: by sign and rung; the two noughts are one. -/
def sr (n : Int) : Int := if n < 0 then -(n % 9223372036854775808) else n % 9223372036854775808

theorem signed_eq (neg : Bool) (m : Nat) (p base : Int) (h : base ≤ p) (hb : Ieee.double.leastPlace ≤ base) {r : Nat} (hm : m <<< (p - Ieee.double.leastPlace).toNat = mg r) :
    Ieee.signed neg m (p - base).toNat * (2 ^ (base - Ieee.double.leastPlace).toNat : Nat) = sg neg r := by
  have e : (m <<< (p - base).toNat) * 2 ^ (base - Ieee.double.leastPlace).toNat = mg r := by
    rw [← hm, Nat.shiftLeft_eq, Nat.shiftLeft_eq, Nat.mul_assoc, ← Nat.pow_add]
    congr 2
    omega
  unfold Ieee.signed sg
  cases neg
  · simp only [Bool.false_eq_true, if_false]
    rw [← e]; push_cast; rfl
  · simp only [if_true]
    rw [← e, Int.neg_mul]; push_cast; rfl

theorem sg_lt {s t : Bool} {a b : Nat} : sg s a < sg t b ↔ (if s then -(a : Int) else (a : Int)) < (if t then -(b : Int) else (b : Int)) := by
  have h0 : mg 0 = 0 := rfl
  have mono := @mg_mono
  have lt_iff : ∀ x y : Nat, mg x < mg y ↔ x < y := fun x y => ⟨fun h => by
    rcases Nat.lt_trichotomy x y with h' | h' | h'
    · exact h'
    · subst h'; omega
    · have := mono h'; omega, fun h => mono h⟩
  have p0 : ∀ x : Nat, 0 < mg x ↔ 0 < x := fun x => by have := lt_iff 0 x; rwa [h0] at this
  unfold sg
  have l1 := lt_iff a b; have l2 := lt_iff b a; have q1 := p0 a; have q2 := p0 b
  cases s <;> cases t <;> simp only [Bool.false_eq_true, if_false, if_true] <;> omega

theorem compare_scale (x y : Int) (k : Nat) (hk : 0 < k) : compare (x * (k : Int)) (y * (k : Int)) = compare x y := by
  have hk' : (0 : Int) < (k : Int) := by omega
  simp only [compare, compareOfLessAndEq]
  by_cases h : x < y
  · rw [if_pos h, if_pos (Int.mul_lt_mul_of_pos_right h hk')]
  · rw [if_neg h, if_neg (fun h' => h (Int.lt_of_mul_lt_mul_right h' (Int.le_of_lt hk')))]
    by_cases e : x = y
    · subst e; simp
    · rw [if_neg e, if_neg (fun h' => e (Int.eq_of_mul_eq_mul_right (by omega) h'))]

theorem compare_sg (s t : Bool) (a b : Nat) : compare (sg s a) (sg t b) = compare (if s then -(a : Int) else (a : Int)) (if t then -(b : Int) else (b : Int)) := by
  have h1 := @sg_lt s t a b
  have h2 := @sg_lt t s b a
  simp only [compare, compareOfLessAndEq]
  generalize hx : (if s then -(a : Int) else (a : Int)) = x at *
  generalize hy : (if t then -(b : Int) else (b : Int)) = y at *
  by_cases h : sg s a < sg t b
  · rw [if_pos h, if_pos (h1.1 h)]
  · rw [if_neg h, if_neg (fun h' => h (h1.2 h'))]
    by_cases e : sg s a = sg t b
    · rw [if_pos e, if_pos (by omega)]
    · rw [if_neg e, if_neg (by omega)]

/-- A signed rung. -/
def sru (s : Bool) (r : Nat) : Int := if s then -(r : Int) else (r : Int)

theorem order_core (u v : Nat) (hu : ¬ 9218868437227405312 < u % 9223372036854775808) (hv : ¬ 9218868437227405312 < v % 9223372036854775808) :
    Ieee.double.order u v = some (compare (sru (u / 9223372036854775808 % 2 == 1) (u % 9223372036854775808)) (sru (v / 9223372036854775808 % 2 == 1) (v % 9223372036854775808))) := by
  unfold Ieee.Format.order
  have cmpLt : ∀ {x y : Int}, x < y → compare x y = .lt := fun h => by simp only [compare, compareOfLessAndEq]; rw [if_pos h]
  have cmpGt : ∀ {x y : Int}, y < x → compare x y = .gt := fun h => by simp only [compare, compareOfLessAndEq]; rw [if_neg (by omega), if_neg (by omega)]
  generalize hs : (u / 9223372036854775808 % 2 == 1) = s
  generalize ht : (v / 9223372036854775808 % 2 == 1) = t
  rcases read_cases u with ⟨m, p, hr, hlt, hp, hm⟩ | ⟨hr, he⟩ | ⟨_, _, h⟩
  · rcases read_cases v with ⟨n, q, kr, klt, kp, km⟩ | ⟨kr, ke⟩ | ⟨_, _, h⟩
    · rw [hr, kr, hs, ht]
      simp only [Ieee.Datum.order]
      rw [← compare_scale _ _ (2 ^ (min p q - Ieee.double.leastPlace).toNat) (Nat.two_pow_pos _),
        signed_eq s m p (min p q) (by omega) (by omega) hm, signed_eq t n q (min p q) (by omega) (by omega) km, compare_sg]
      rfl
    · rw [hr, kr, hs, ht]
      simp only [Ieee.Datum.order]
      cases t
      · rw [cmpLt]; · rfl
        unfold sru; cases s <;> simp <;> omega
      · rw [cmpGt]; · rfl
        unfold sru; cases s <;> simp <;> omega
    · exact absurd h hv
  · rcases read_cases v with ⟨n, q, kr, klt, kp, km⟩ | ⟨kr, ke⟩ | ⟨_, _, h⟩
    · rw [hr, kr, hs, ht]
      simp only [Ieee.Datum.order]
      cases s
      · rw [cmpGt]; · rfl
        unfold sru; cases t <;> simp <;> omega
      · rw [cmpLt]; · rfl
        unfold sru; cases t <;> simp <;> omega
    · rw [hr, kr, hs, ht, he, ke]
      simp only [Ieee.Datum.order]
      cases s <;> cases t <;> rfl
    · exact absurd h hv
  · exact absurd h hu

/-- THE LANGUAGE's ORDER OF TWO FLOATS THAT ARE NO NaN. -/
theorem order_sr {a b : Int} (ha : inI a) (hb : inI b) (na : nanB a = false) (nb : nanB b = false) :
    FloatKind.f64.format.order (wd a) (wd b) = some (compare (sr a) (sr b)) := by
  have srE : ∀ {n : Int}, inI n → sru (wd n / 9223372036854775808 % 2 == 1) (wd n % 9223372036854775808) = sr n := by
    intro n hn
    unfold inI at hn
    unfold sru sr
    rw [wd_mod]
    by_cases h : n < 0
    · rw [if_pos h, if_pos (by unfold wd; simp; omega)]
    · rw [if_neg h, if_neg (by unfold wd; simp; omega)]
  have na' : ¬ 9218868437227405312 < wd a % 9223372036854775808 := by have := of_decide_eq_false na; have := wd_mod a; omega
  have nb' : ¬ 9218868437227405312 < wd b % 9223372036854775808 := by have := of_decide_eq_false nb; have := wd_mod b; omega
  rw [f64_format, order_core _ _ na' nb', srE ha, srE hb]

/-- With a NaN there is no order. -/
theorem order_none {u v : Nat} (h : nanB (u : Int) = true ∨ nanB (v : Int) = true) : FloatKind.f64.format.order u v = none := by
  rw [f64_format]
  unfold Ieee.Format.order
  rcases h with h | h
  · have h' := of_decide_eq_true h
    rcases read_cases u with ⟨m, p, hr, hlt, _, _⟩ | ⟨hr, he⟩ | ⟨t, hr, hlt⟩
    · omega
    · omega
    · rw [hr]; cases Ieee.double.read v <;> rfl
  · have h' := of_decide_eq_true h
    rcases read_cases v with ⟨m, p, hr, hlt, _, _⟩ | ⟨hr, he⟩ | ⟨t, hr, hlt⟩
    · omega
    · omega
    · rw [hr]; cases Ieee.double.read u <;> rfl

theorem nanB_wd (n : Int) : nanB (wd n : Int) = nanB n := by unfold nanB wd; rw [Bool.eq_iff_iff]; simp; omega

theorem toNat_ofNat {x : Int} (h : 0 ≤ x) : ∃ k : Nat, x = k := ⟨x.toNat, by omega⟩

theorem topBit {n : Int} (h : inI n) : (bits .and .u64 (IntKind.u64.wrap n) 9223372036854775808 != 0) = decide (n < 0) := by
  unfold inI at h
  rw [IntKind.wrap_u64, u64_and _ _ (by omega) (by omega) (by omega) (by omega)]
  have e : (n % 18446744073709551616).toNat &&& (9223372036854775808 : Int).toNat = (n % 18446744073709551616).toNat / 2 ^ 63 % 2 * 2 ^ 63 := nat_bit 63 _
  rw [e]
  by_cases hn : n < 0
  · rw [decide_eq_true hn, bne_iff_ne]; omega
  · rw [decide_eq_false hn]; simp; omega

theorem turned {n : Int} (h : inI n) (hn : n < 0) : bits .xor .u64 IntKind.u64.max (IntKind.u64.wrap n) = rankI n := by
  unfold inI at h
  have hm : IntKind.u64.max = 18446744073709551615 := rfl
  rw [IntKind.wrap_u64, hm, u64_xor _ _ (by omega) (by omega) (by omega) (by omega)]
  obtain ⟨k, hk⟩ : ∃ k : Nat, n % 18446744073709551616 = k := ⟨(n % 18446744073709551616).toNat, by omega⟩
  have hk2 : k < 2 ^ 64 := by omega
  rw [hk]
  have e : (18446744073709551615 : Int).toNat ^^^ (k : Int).toNat = 2 ^ 64 - 1 - k := by
    have := Nat.xor_comm (2 ^ 64 - 1) k
    rw [show (18446744073709551615 : Int).toNat = 2 ^ 64 - 1 from rfl, Int.toNat_natCast]
    apply Nat.eq_of_testBit_eq
    intro i
    rw [Nat.testBit_xor, Nat.testBit_two_pow_sub_one, show 2 ^ 64 - 1 - k = 2 ^ 64 - (k + 1) by omega, Nat.testBit_two_pow_sub_succ hk2]
    by_cases hi : i < 64
    · simp [hi]
    · have : k.testBit i = false := Nat.testBit_lt_two_pow (Nat.lt_of_lt_of_le hk2 (Nat.pow_le_pow_right (by omega) (by omega)))
      simp [hi, this]
  rw [e]
  unfold rankI
  rw [if_pos hn]
  omega

theorem marked {n : Int} (h : inI n) (hn : ¬ n < 0) : bits .or .u64 (IntKind.u64.wrap n) 9223372036854775808 = rankI n := by
  unfold inI at h
  rw [IntKind.wrap_u64, u64_or _ _ (by omega) (by omega) (by omega) (by omega)]
  have e : (n % 18446744073709551616).toNat ||| (9223372036854775808 : Int).toNat = (n % 18446744073709551616).toNat + 9223372036854775808 := by
    rw [Nat.or_comm, show (9223372036854775808 : Int).toNat = 9223372036854775808 from rfl, nat_join 63 _ _ (by decide) (by omega), Nat.add_comm]
  rw [e]
  unfold rankI
  rw [if_neg hn]
  omega

theorem canon_in {n : Int} (h : inI n) : inI (canonI n) := by unfold canonI inI at *; split <;> omega
theorem rank_in {n : Int} (h : inI n) : 0 ≤ rankI n ∧ rankI n < 18446744073709551616 := by unfold rankI inI at *; split <;> omega

end Go.Proofs.YtfcnobcpnhfgmaaDoor
