/- Several texts in one: FM FL FG FN FQ FRa. Conditions: as each theorem names them. -/
import Derived.Laws.BitsAllLaws
import Derived.Laws.Bits64
import Derived.Laws.Cover2
import Derived.IntWalk
import Derived.Test.YtpjkhholpbfbpaaDoorRows
import Derived.WalkKit
import Derived.WalkSpells
import Derived.WalkLawsBesides
import Derived.Test.YtpjkhholpbfbpaaDoorFK
/- Plain mathematics of 64 bits as floats, without the program: NaN, the order of IEEE doubles by their bits, ranks, turned bits. No conditions but the ranges that each lemma names. -/
namespace Go.Proofs.YtpjkhholpbfbpaaDoor
open Go.RowKit (wrap64)

/-- Are these bits a NaN's? -/
def nanB (n : Int) : Bool := decide (9218868437227405312 < n % 9223372036854775808)
def canonI (n : Int) : Int := if nanB n = true then 9221120237041090560 else n
def rightB (n : Int) : Bool := (n == 9221120237041090560) || !nanB n
def rankI (n : Int) : Int := if n < 0 then -1 - n else n + 9223372036854775808
def cmpI (a b : Int) : Int := if a < b then -1 else if b < a then 1 else 0
def ordI (a b : Int) : Int := cmpI (rankI (canonI a)) (rankI (canonI b))
def wd (n : Int) : Nat := (n % 18446744073709551616).toNat
/-- The other sign. -/
def flipI (n : Int) : Int := if n < 0 then n + 9223372036854775808 else n - 9223372036854775808
def inI (n : Int) : Prop := -9223372036854775808 ≤ n ∧ n < 9223372036854775808

theorem wd_lt (n : Int) : wd n < 18446744073709551616 := by unfold wd; omega
theorem wd_u64 (n : Int) : (IntKind.u64.wrap n).toNat = wd n := by rw [IntKind.wrap_u64]; rfl
theorem wd_mod (n : Int) : ((wd n % 9223372036854775808 : Nat) : Int) = n % 9223372036854775808 := by unfold wd; omega
theorem wrap64_wd {n : Int} (h : inI n) : wrap64 (wd n : Int) = n := by unfold wd wrap64 inI at *; omega

theorem width63 : Ieee.double.signWeight = 9223372036854775808 := by decide
theorem inf_rung : Ieee.double.infRung = 9218868437227405312 := by decide
theorem binade52 : Ieee.double.binade = 4503599627370496 := by decide
theorem f64_format : FloatKind.f64.format = Ieee.double := rfl

/-- The size of the number of a rung, in units of the least number. -/
def mg (r : Nat) : Nat := if r < 4503599627370496 then r else (4503599627370496 + r % 4503599627370496) * 2 ^ (r / 4503599627370496 - 1)

theorem mg_mono {a b : Nat} (h : a < b) : mg a < mg b := by
  unfold mg
  by_cases ha : a < 4503599627370496
  · rw [if_pos ha]
    by_cases hb : b < 4503599627370496
    · rw [if_pos hb]; exact h
    · rw [if_neg hb]
      have : 1 ≤ 2 ^ (b / 4503599627370496 - 1) := Nat.one_le_two_pow
      calc a < 4503599627370496 := ha
        _ ≤ (4503599627370496 + b % 4503599627370496) * 1 := by omega
        _ ≤ _ := Nat.mul_le_mul_left _ this
  · rw [if_neg ha, if_neg (by omega)]
    obtain ⟨q, hq⟩ : ∃ q, a / 4503599627370496 = q + 1 := ⟨a / 4503599627370496 - 1, by omega⟩
    obtain ⟨q', hq'⟩ : ∃ q', b / 4503599627370496 = q' + 1 := ⟨b / 4503599627370496 - 1, by omega⟩
    rw [hq, hq', Nat.add_sub_cancel, Nat.add_sub_cancel]
    have hle : q ≤ q' := by omega
    by_cases he : q = q'
    · subst he
      exact Nat.mul_lt_mul_of_pos_right (by omega) (Nat.two_pow_pos _)
    · have h1 : 2 ^ (q + 1) ≤ 2 ^ q' := Nat.pow_le_pow_right (by omega) (by omega)
      have h2 : (4503599627370496 + a % 4503599627370496) * 2 ^ q < 4503599627370496 * 2 ^ (q + 1) := by
        rw [Nat.pow_succ, Nat.mul_comm (2 ^ q) 2, ← Nat.mul_assoc]
        exact Nat.mul_lt_mul_of_pos_right (by omega) (Nat.two_pow_pos _)
      calc _ < 4503599627370496 * 2 ^ (q + 1) := h2
        _ ≤ 4503599627370496 * 2 ^ q' := Nat.mul_le_mul_left _ h1
        _ ≤ _ := Nat.mul_le_mul_right _ (by omega)

/-- The signed size: what the number is, in units of the least number. -/
def sg (neg : Bool) (r : Nat) : Int := if neg then -(mg r : Int) else (mg r : Int)

theorem read_cases (u : Nat) :
    (∃ m p, Ieee.double.read u = .number (u / 9223372036854775808 % 2 == 1) m p ∧ u % 9223372036854775808 < 9218868437227405312 ∧ Ieee.double.leastPlace ≤ p ∧ m <<< (p - Ieee.double.leastPlace).toNat = mg (u % 9223372036854775808)) ∨
    (Ieee.double.read u = .infinity (u / 9223372036854775808 % 2 == 1) ∧ u % 9223372036854775808 = 9218868437227405312) ∨
    (∃ t, Ieee.double.read u = .nan (u / 9223372036854775808 % 2 == 1) t ∧ 9218868437227405312 < u % 9223372036854775808) := by
  have key : Ieee.double.read u = (if u % 9223372036854775808 < 4503599627370496 then .number (u / 9223372036854775808 % 2 == 1) (u % 9223372036854775808) Ieee.double.leastPlace
    else if u % 9223372036854775808 < 9218868437227405312 then
    .number (u / 9223372036854775808 % 2 == 1) (4503599627370496 + u % 9223372036854775808 % 4503599627370496) (Ieee.double.leastPlace + (u % 9223372036854775808 / 4503599627370496 - 1 : Nat))
  else if u % 9223372036854775808 = 9218868437227405312 then .infinity (u / 9223372036854775808 % 2 == 1)
  else .nan (u / 9223372036854775808 % 2 == 1) (u % 9223372036854775808 - 9218868437227405312)) := by
    unfold Ieee.Format.read
    rw [width63, inf_rung, binade52]
  rw [key]
  by_cases h1 : u % 9223372036854775808 < 4503599627370496
  · refine Or.inl ⟨u % 9223372036854775808, Ieee.double.leastPlace, by rw [if_pos h1], by omega, Int.le_refl _, ?_⟩
    unfold mg
    rw [if_pos h1, Int.sub_self]
    rfl
  · rw [if_neg h1]
    by_cases h2 : u % 9223372036854775808 < 9218868437227405312
    · refine Or.inl ⟨_, _, by rw [if_pos h2], h2, by omega, ?_⟩
      unfold mg
      rw [if_neg h1, Nat.shiftLeft_eq]
      congr 2
      omega
    · rw [if_neg h2]
      by_cases h3 : u % 9223372036854775808 = 9218868437227405312
      · exact Or.inr (Or.inl ⟨by rw [if_pos h3], h3⟩)
      · exact Or.inr (Or.inr ⟨_, by rw [if_neg h3], by omega⟩)

theorem order_nan (u : Nat) : (FloatKind.f64.format.order u u != some Ordering.eq) = nanB (u : Int) := by
  rw [f64_format]
  unfold Ieee.Format.order nanB
  have hc : ((u : Int) % 9223372036854775808) = ((u % 9223372036854775808 : Nat) : Int) := by omega
  rcases read_cases u with ⟨m, p, hr, hlt, _, _⟩ | ⟨hr, he⟩ | ⟨t, hr, hlt⟩
  · rw [hr, decide_eq_false (by omega)]
    simp [Ieee.Datum.order]
  · rw [hr, decide_eq_false (by omega)]
    simp [Ieee.Datum.order]
  · rw [hr, decide_eq_true (by omega)]
    simp [Ieee.Datum.order]

/-- The place in the language's order of what is no NaN: by sign and rung; the two noughts are one. -/
def sr (n : Int) : Int := if n < 0 then -(n % 9223372036854775808) else n % 9223372036854775808

theorem signed_eq (neg : Bool) (m : Nat) (p base : Int) (h : base ≤ p) (hb : Ieee.double.leastPlace ≤ base) {r : Nat} (hm : m <<< (p - Ieee.double.leastPlace).toNat = mg r) :
    Ieee.signed neg m (p - base).toNat * (2 ^ (base - Ieee.double.leastPlace).toNat : Nat) = sg neg r := by
  have e : (m <<< (p - base).toNat) * 2 ^ (base - Ieee.double.leastPlace).toNat = mg r := by
    rw [← hm, Nat.shiftLeft_eq, Nat.shiftLeft_eq, Nat.mul_assoc, ← Nat.pow_add]
    congr 2
    omega
  unfold Ieee.signed sg
  cases neg
  · simp only [Bool.false_eq_true, if_false]
    rw [← e]; push_cast; rfl
  · simp only [if_true]
    rw [← e, Int.neg_mul]; push_cast; rfl

theorem sg_lt {s t : Bool} {a b : Nat} : sg s a < sg t b ↔ (if s then -(a : Int) else (a : Int)) < (if t then -(b : Int) else (b : Int)) := by
  have h0 : mg 0 = 0 := rfl
  have mono := @mg_mono
  have lt_iff : ∀ x y : Nat, mg x < mg y ↔ x < y := fun x y => ⟨fun h => by
    rcases Nat.lt_trichotomy x y with h' | h' | h'
    · exact h'
    · subst h'; omega
    · have := mono h'; omega, fun h => mono h⟩
  have p0 : ∀ x : Nat, 0 < mg x ↔ 0 < x := fun x => by have := lt_iff 0 x; rwa [h0] at this
  unfold sg
  have l1 := lt_iff a b; have l2 := lt_iff b a; have q1 := p0 a; have q2 := p0 b
  cases s <;> cases t <;> simp only [Bool.false_eq_true, if_false, if_true] <;> omega

theorem compare_scale (x y : Int) (k : Nat) (hk : 0 < k) : compare (x * (k : Int)) (y * (k : Int)) = compare x y := by
  have hk' : (0 : Int) < (k : Int) := by omega
  simp only [compare, compareOfLessAndEq]
  by_cases h : x < y
  · rw [if_pos h, if_pos (Int.mul_lt_mul_of_pos_right h hk')]
  · rw [if_neg h, if_neg (fun h' => h (Int.lt_of_mul_lt_mul_right h' (Int.le_of_lt hk')))]
    by_cases e : x = y
    · subst e; simp
    · rw [if_neg e, if_neg (fun h' => e (Int.eq_of_mul_eq_mul_right (by omega) h'))]

theorem compare_sg (s t : Bool) (a b : Nat) : compare (sg s a) (sg t b) = compare (if s then -(a : Int) else (a : Int)) (if t then -(b : Int) else (b : Int)) := by
  have h1 := @sg_lt s t a b
  have h2 := @sg_lt t s b a
  simp only [compare, compareOfLessAndEq]
  generalize hx : (if s then -(a : Int) else (a : Int)) = x at *
  generalize hy : (if t then -(b : Int) else (b : Int)) = y at *
  by_cases h : sg s a < sg t b
  · rw [if_pos h, if_pos (h1.1 h)]
  · rw [if_neg h, if_neg (fun h' => h (h1.2 h'))]
    by_cases e : sg s a = sg t b
    · rw [if_pos e, if_pos (by omega)]
    · rw [if_neg e, if_neg (by omega)]

/-- A signed rung. -/
def sru (s : Bool) (r : Nat) : Int := if s then -(r : Int) else (r : Int)

theorem order_core (u v : Nat) (hu : ¬ 9218868437227405312 < u % 9223372036854775808) (hv : ¬ 9218868437227405312 < v % 9223372036854775808) :
    Ieee.double.order u v = some (compare (sru (u / 9223372036854775808 % 2 == 1) (u % 9223372036854775808)) (sru (v / 9223372036854775808 % 2 == 1) (v % 9223372036854775808))) := by
  unfold Ieee.Format.order
  have cmpLt : ∀ {x y : Int}, x < y → compare x y = .lt := fun h => by simp only [compare, compareOfLessAndEq]; rw [if_pos h]
  have cmpGt : ∀ {x y : Int}, y < x → compare x y = .gt := fun h => by simp only [compare, compareOfLessAndEq]; rw [if_neg (by omega), if_neg (by omega)]
  generalize hs : (u / 9223372036854775808 % 2 == 1) = s
  generalize ht : (v / 9223372036854775808 % 2 == 1) = t
  rcases read_cases u with ⟨m, p, hr, hlt, hp, hm⟩ | ⟨hr, he⟩ | ⟨_, _, h⟩
  · rcases read_cases v with ⟨n, q, kr, klt, kp, km⟩ | ⟨kr, ke⟩ | ⟨_, _, h⟩
    · rw [hr, kr, hs, ht]
      simp only [Ieee.Datum.order]
      rw [← compare_scale _ _ (2 ^ (min p q - Ieee.double.leastPlace).toNat) (Nat.two_pow_pos _),
        signed_eq s m p (min p q) (by omega) (by omega) hm, signed_eq t n q (min p q) (by omega) (by omega) km, compare_sg]
      rfl
    · rw [hr, kr, hs, ht]
      simp only [Ieee.Datum.order]
      cases t
      · rw [cmpLt]; · rfl
        unfold sru; cases s <;> simp <;> omega
      · rw [cmpGt]; · rfl
        unfold sru; cases s <;> simp <;> omega
    · exact absurd h hv
  · rcases read_cases v with ⟨n, q, kr, klt, kp, km⟩ | ⟨kr, ke⟩ | ⟨_, _, h⟩
    · rw [hr, kr, hs, ht]
      simp only [Ieee.Datum.order]
      cases s
      · rw [cmpGt]; · rfl
        unfold sru; cases t <;> simp <;> omega
      · rw [cmpLt]; · rfl
        unfold sru; cases t <;> simp <;> omega
    · rw [hr, kr, hs, ht, he, ke]
      simp only [Ieee.Datum.order]
      cases s <;> cases t <;> rfl
    · exact absurd h hv
  · exact absurd h hu

/-- THE LANGUAGE's ORDER OF TWO FLOATS THAT ARE NO NaN. -/
theorem order_sr {a b : Int} (ha : inI a) (hb : inI b) (na : nanB a = false) (nb : nanB b = false) :
    FloatKind.f64.format.order (wd a) (wd b) = some (compare (sr a) (sr b)) := by
  have srE : ∀ {n : Int}, inI n → sru (wd n / 9223372036854775808 % 2 == 1) (wd n % 9223372036854775808) = sr n := by
    intro n hn
    unfold inI at hn
    unfold sru sr
    rw [wd_mod]
    by_cases h : n < 0
    · rw [if_pos h, if_pos (by unfold wd; simp; omega)]
    · rw [if_neg h, if_neg (by unfold wd; simp; omega)]
  have na' : ¬ 9218868437227405312 < wd a % 9223372036854775808 := by have := of_decide_eq_false na; have := wd_mod a; omega
  have nb' : ¬ 9218868437227405312 < wd b % 9223372036854775808 := by have := of_decide_eq_false nb; have := wd_mod b; omega
  rw [f64_format, order_core _ _ na' nb', srE ha, srE hb]

/-- With a NaN there is no order. -/
theorem order_none {u v : Nat} (h : nanB (u : Int) = true ∨ nanB (v : Int) = true) : FloatKind.f64.format.order u v = none := by
  rw [f64_format]
  unfold Ieee.Format.order
  rcases h with h | h
  · have h' := of_decide_eq_true h
    rcases read_cases u with ⟨m, p, hr, hlt, _, _⟩ | ⟨hr, he⟩ | ⟨t, hr, hlt⟩
    · omega
    · omega
    · rw [hr]; cases Ieee.double.read v <;> rfl
  · have h' := of_decide_eq_true h
    rcases read_cases v with ⟨m, p, hr, hlt, _, _⟩ | ⟨hr, he⟩ | ⟨t, hr, hlt⟩
    · omega
    · omega
    · rw [hr]; cases Ieee.double.read u <;> rfl

theorem nanB_wd (n : Int) : nanB (wd n : Int) = nanB n := by unfold nanB wd; rw [Bool.eq_iff_iff]; simp; omega

theorem toNat_ofNat {x : Int} (h : 0 ≤ x) : ∃ k : Nat, x = k := ⟨x.toNat, by omega⟩

theorem topBit {n : Int} (h : inI n) : (bits .and .u64 (IntKind.u64.wrap n) 9223372036854775808 != 0) = decide (n < 0) := by
  unfold inI at h
  rw [IntKind.wrap_u64, u64_and _ _ (by omega) (by omega) (by omega) (by omega)]
  have e : (n % 18446744073709551616).toNat &&& (9223372036854775808 : Int).toNat = (n % 18446744073709551616).toNat / 2 ^ 63 % 2 * 2 ^ 63 := nat_bit 63 _
  rw [e]
  by_cases hn : n < 0
  · rw [decide_eq_true hn, bne_iff_ne]; omega
  · rw [decide_eq_false hn]; simp; omega

theorem turned {n : Int} (h : inI n) (hn : n < 0) : bits .xor .u64 IntKind.u64.max (IntKind.u64.wrap n) = rankI n := by
  unfold inI at h
  have hm : IntKind.u64.max = 18446744073709551615 := rfl
  rw [IntKind.wrap_u64, hm, u64_xor _ _ (by omega) (by omega) (by omega) (by omega)]
  obtain ⟨k, hk⟩ : ∃ k : Nat, n % 18446744073709551616 = k := ⟨(n % 18446744073709551616).toNat, by omega⟩
  have hk2 : k < 2 ^ 64 := by omega
  rw [hk]
  have e : (18446744073709551615 : Int).toNat ^^^ (k : Int).toNat = 2 ^ 64 - 1 - k := by
    have := Nat.xor_comm (2 ^ 64 - 1) k
    rw [show (18446744073709551615 : Int).toNat = 2 ^ 64 - 1 from rfl, Int.toNat_natCast]
    apply Nat.eq_of_testBit_eq
    intro i
    rw [Nat.testBit_xor, Nat.testBit_two_pow_sub_one, show 2 ^ 64 - 1 - k = 2 ^ 64 - (k + 1) by omega, Nat.testBit_two_pow_sub_succ hk2]
    by_cases hi : i < 64
    · simp [hi]
    · have : k.testBit i = false := Nat.testBit_lt_two_pow (Nat.lt_of_lt_of_le hk2 (Nat.pow_le_pow_right (by omega) (by omega)))
      simp [hi, this]
  rw [e]
  unfold rankI
  rw [if_pos hn]
  omega

theorem marked {n : Int} (h : inI n) (hn : ¬ n < 0) : bits .or .u64 (IntKind.u64.wrap n) 9223372036854775808 = rankI n := by
  unfold inI at h
  rw [IntKind.wrap_u64, u64_or _ _ (by omega) (by omega) (by omega) (by omega)]
  have e : (n % 18446744073709551616).toNat ||| (9223372036854775808 : Int).toNat = (n % 18446744073709551616).toNat + 9223372036854775808 := by
    rw [Nat.or_comm, show (9223372036854775808 : Int).toNat = 9223372036854775808 from rfl, nat_join 63 _ _ (by decide) (by omega), Nat.add_comm]
  rw [e]
  unfold rankI
  rw [if_neg hn]
  omega

theorem canon_in {n : Int} (h : inI n) : inI (canonI n) := by unfold canonI inI at *; split <;> omega
theorem rank_in {n : Int} (h : inI n) : 0 ≤ rankI n ∧ rankI n < 18446744073709551616 := by unfold rankI inI at *; split <;> omega

end Go.Proofs.YtpjkhholpbfbpaaDoor

/- What the small functions of package float do, for every argument: math.IsNaN, To, Right, rank. Conditions: an int is one of 64 bits. -/
namespace Go.Proofs.YtpjkhholpbfbpaaDoor
open Go.RowKit

theorem call34 (n : Int) (w : World) : (callFunc 133 #[.int .u64 n]).run Tryd.prog w = .ok (.value (.float .f64 n.toNat)) w := by
  rw [run_callFunc_extern (e := Extern.MathFloatBits.float64frombits) Tryd.func133 (by kernel_rfl) (by kernel_rfl) (by kernel_rfl) (by kernel_rfl)]
  rfl

set_option maxHeartbeats 400000 in
theorem to_any (n : Int) (w : World) :
    Calls Tryd.prog 116 #[.int .i64 n] w fun e w' => e = .returned (.float .f64 (wd n)) ∧ w = w' := by
  rw [← wd_u64]
  have h34 := call34
  go_enter Tryd.func116, Tryd.ntmps116
  go_wp2
  go_ret
  exact ⟨rfl, rfl⟩

set_option maxHeartbeats 400000 in
theorem isnan_any (u : Nat) (w : World) :
    Calls Tryd.prog 115 #[.float .f64 u] w fun e w' => e = .returned (.bool (nanB u)) ∧ w = w' := by
  rw [← order_nan]
  go_enter Tryd.func115, Tryd.ntmps115
  go_wp2
  go_ret
  exact ⟨rfl, rfl⟩

set_option maxHeartbeats 400000 in
theorem rank_any {n : Int} (h : inI n) (w : World) :
    Calls Tryd.prog 109 #[.int .i64 n] w fun e w' => e = .returned (.int .u64 (rankI n)) ∧ w = w' := by
  have hb := topBit h
  by_cases hn : n < 0
  · have ht := turned h hn
    rw [decide_eq_true hn] at hb
    rw [← ht]
    clear ht h hn
    go_enter Tryd.func109, Tryd.ntmps109
    go_wp2
    go_ret
    exact ⟨rfl, rfl⟩
  · have ht := marked h hn
    rw [decide_eq_false hn] at hb
    rw [← ht]
    clear ht h hn
    go_enter Tryd.func109, Tryd.ntmps109
    go_wp2
    go_ret
    exact ⟨rfl, rfl⟩

theorem ret_int {k : IntKind} {a b : Int} (h : a = b) : Ending.returned (.int k a) = .returned (.int k b) := by rw [h]

theorem wrap_nan {n : Int} (h : inI n) : (IntKind.u64.wrap n = 9221120237041090560) ↔ n = 9221120237041090560 := by
  rw [IntKind.wrap_u64]; unfold inI at h; omega

set_option maxHeartbeats 400000 in
theorem right_any {n : Int} (h : inI n) (w : World) :
    Calls Tryd.prog 96 #[.int .i64 n] w fun e w' => e = .returned (.bool (rightB n)) ∧ w = w' := by
  have hw := wrap_nan h
  by_cases hn : n = 9221120237041090560
  · have h1 := hw.2 hn
    have h2 : rightB n = true := by unfold rightB; simp [hn]
    rw [h2]
    clear h2 hw hn h
    go_enter Tryd.func96, Tryd.ntmps96
    go_wp2
    go_ret
    exact ⟨rfl, rfl⟩
  · have h1 : (IntKind.u64.wrap n == 9221120237041090560) = false := by simpa using fun h' => hn (hw.1 h')
    have h2 : rightB n = !nanB (wd n) := by unfold rightB; rw [nanB_wd]; simp [hn]
    rw [h2]
    clear h2 hw hn h
    go_enter Tryd.func96, Tryd.ntmps96
    go_wp2_with (first | (go_at_call 116; refine (to_any _ _).mono ?_; rintro e w' ⟨rfl, rfl⟩) | (go_at_call 115; refine (isnan_any _ _).mono ?_; rintro e w' ⟨rfl, rfl⟩))
    go_ret
    exact ⟨rfl, rfl⟩

theorem mk_toList (l : List UInt8) : (⟨l.toArray⟩ : ByteArray).toList = l := by rw [ByteArray.toList_eq]

end Go.Proofs.YtpjkhholpbfbpaaDoor

/- float.Bytes for every int: nothing for one that isn't right, else new memory with the eight bytes of its rank, the highest first. Conditions: an int of 64 bits. -/
namespace Go.Proofs.YtpjkhholpbfbpaaDoor
open Go.RowKit

set_option maxHeartbeats 400000 in
theorem bytes_no {n : Int} (h : inI n) (hr : rightB n = false) (w : World) :
    Calls Tryd.prog 89 #[.int .i64 n] w fun e w' => e = .returned (.slice none 0 0) ∧ w = w' := by
  go_enter Tryd.func89, Tryd.ntmps89
  go_wp2_with (go_at_call 96; refine (right_any h _).mono ?_; rintro e w' ⟨rfl, rfl⟩)
  go_ret
  exact ⟨rfl, rfl⟩

theorem byte_at (r i : Nat) : ((r : Int) / 2 ^ (8 * i) % 256) = ((UInt8.ofNat (r / 256 ^ i % 256)).toNat : Int) := by
  have e : (2 : Nat) ^ (8 * i) = 256 ^ i := by rw [Nat.pow_mul]
  have e2 : ((2 : Int) ^ (8 * i)) = ((256 ^ i : Nat) : Int) := by rw [← e, Int.natCast_pow]; rfl
  rw [e2, UInt8.toNat_ofNat']
  have : r / 256 ^ i % 256 % 2 ^ 8 = r / 256 ^ i % 256 := Nat.mod_eq_of_lt (by omega)
  rw [this, Int.natCast_emod, Int.natCast_ediv]
  rfl
theorem drop_set8 {xs : Array Value} {k j r : Nat} (hs : xs.size = 8) (hk : k ≤ 7) (hd : xs.toList.drop (k + 1) = bc (byW j r)) :
    (xs.setIfInBounds k (Value.int .u8 ((UInt8.ofNat (r / 256 ^ j % 256)).toNat : Int))).toList.drop k = bc (byW (j + 1) r) := by
  rw [byW_cons]
  unfold bc at *
  rw [List.map_cons, ← hd, Array.toList_setIfInBounds, List.drop_set, if_neg (by omega), Nat.sub_self]
  rw [List.drop_eq_getElem_cons (by simp; omega)]
  rfl

/-- What the loop knows: i bytes have been laid. -/
def BInv (r b : Nat) (w0 : World) (vi : Value) (wr : World) : Prop :=
  ∃ (i : Nat) (xs : Array Value), i ≤ 8 ∧ vi = .int .i64 i ∧ Blk wr b 5 xs ∧ xs.size = 8 ∧ xs.toList.drop (8 - i) = bc (byW i r) ∧ Below b w0 wr

set_option maxHeartbeats 1000000 in
theorem bytes_yes {n : Int} (h : inI n) (hr : rightB n = true) (w : World) :
    Calls Tryd.prog 89 #[.int .i64 n] w fun e w' => e = .returned (.slice (some ⟨w.heap.size, 0, none⟩) 8 8) ∧ Blk w' w.heap.size 5 (bc (byW 8 (rankI n).toNat)).toArray ∧ Below w.heap.size w w' := by
  have hmk : ∀ W, (Instr.makeSlice 22 (.int .i64 8) (.int .i64 8)).run Tryd.prog W = .ok (.slice (some ⟨W.heap.size, 0, none⟩) 8 8) (W.alloc (.cells #[.int .u8 0, .int .u8 0, .int .u8 0, .int .u8 0, .int .u8 0, .int .u8 0, .int .u8 0, .int .u8 0] 5)) := fun _ => by kernel_rfl
  obtain ⟨r0, r1⟩ := rank_in h
  have HRk : Hid (∀ W, Calls Tryd.prog 109 #[.int .i64 n] W fun e w' => e = .returned (.int .u64 (rankI n)) ∧ W = w') := fun W => rank_any h W
  have HRt : Hid (∀ W, Calls Tryd.prog 96 #[.int .i64 n] W fun e w' => e = .returned (.bool (rightB n)) ∧ W = w') := fun W => right_any h W
  obtain ⟨r, hrk⟩ := toNat_ofNat r0
  rw [hrk] at HRk r0 r1 ⊢
  rw [hr] at HRt
  rw [Int.toNat_natCast]
  clear hrk h hr
  go_enter Tryd.func89, Tryd.ntmps89
  go_wp2_with (first | (go_at_call 96; refine (HRt.out _).mono ?_; rintro e w' ⟨rfl, rfl⟩) | (go_at_call 109; refine (HRk.out _).mono ?_; rintro e w' ⟨rfl, rfl⟩))
  go_loopw [14] (fun vi wr => BInv r w.heap.size w vi wr) (fun vi _ => 8 - (intOf vi).toNat)
  case atStart => exact ⟨0, _, by omega, rfl, Blk.new _ _ _, rfl, rfl, (Below.refl _ _).alloc (Nat.le_refl _) _⟩
  case round =>
    obtain ⟨i, xs, hi, rfl, hB, hs, hdrop, hbel⟩ := hrel
    by_cases hlt : i < 8
    · have HB := hid hB
      have HS := hid hs
      have HD := hid hdrop
      obtain ⟨v0, hcell⟩ : ∃ v, wr.cell? ⟨w.heap.size, 7 - i, none⟩ = some v := ⟨xs[7 - i]'(by omega), by rw [hB.cell, Array.getElem?_eq_getElem]⟩
      have hfree := hB.free (7 - i)
      clear hB hs hdrop hmk r0 r1
      go_wp2
      go_roundw
      case rel =>
        refine ⟨i + 1, xs.setIfInBounds (7 - i) (Value.int .u8 ((UInt8.ofNat (r / 256 ^ i % 256)).toNat : Int)), by omega, by go_num, ?_, by rw [Array.size_setIfInBounds]; exact HS.out, ?_, hbel.setCell (Nat.le_refl _) _⟩
        · rw [← byte_at]
          exact HB.out.set (7 - i) _
        · rw [show 8 - (i + 1) = 7 - i by omega]
          exact drop_set8 HS.out (by omega) (by rw [show 7 - i + 1 = 8 - i by omega]; exact HD.out)
      case measure => simp [intOf]; omega
    · obtain rfl : i = 8 := by omega
      have HD : Hid (Blk wr w.heap.size 5 (bc (byW 8 r)).toArray) := by
        have e : xs.toList = bc (byW 8 r) := hdrop
        rw [← e]
        exact hB
      clear hB hs hdrop hmk r0 r1
      go_wp2
      go_ret
      exact ⟨rfl, HD.out, hbel⟩

end Go.Proofs.YtpjkhholpbfbpaaDoor

/- Plain mathematics of the order of floats by their bits: it is one, it is the language's, and the other sign turns it. Conditions: ints of 64 bits. -/
namespace Go.Proofs.YtpjkhholpbfbpaaDoor
open Go.RowKit (wrap64)

theorem cmpI_neg (a b : Int) : cmpI a b = -cmpI b a := by unfold cmpI; repeat' split <;> omega
theorem cmpI_self (a : Int) : cmpI a a = 0 := by unfold cmpI; rw [if_neg (Int.lt_irrefl a), if_neg (Int.lt_irrefl a)]
theorem cmpI_cases (a b : Int) : cmpI a b = -1 ∨ cmpI a b = 0 ∨ cmpI a b = 1 := by unfold cmpI; repeat' split <;> omega
theorem cmpI_lt {a b : Int} : cmpI a b = -1 ↔ a < b := by unfold cmpI; repeat' split <;> omega
theorem cmpI_gt {a b : Int} : cmpI a b = 1 ↔ b < a := by unfold cmpI; repeat' split <;> omega
theorem cmpI_eq {a b : Int} : cmpI a b = 0 ↔ a = b := by unfold cmpI; repeat' split <;> omega
theorem ordI_neg (a b : Int) : ordI a b = -ordI b a := cmpI_neg _ _
theorem ordI_self (a : Int) : ordI a a = 0 := cmpI_self _
theorem ordI_cases (a b : Int) : ordI a b = -1 ∨ ordI a b = 0 ∨ ordI a b = 1 := cmpI_cases _ _
theorem ordI_trans {a b c : Int} (h1 : ordI a b = -1) (h2 : ordI b c = -1) : ordI a c = -1 := cmpI_lt.2 (Int.lt_trans (cmpI_lt.1 h1) (cmpI_lt.1 h2))

theorem canon_id {n : Int} (h : nanB n = false) : canonI n = n := by unfold canonI; rw [if_neg (by rw [h]; decide)]

theorem ord_lt {a b : Int} (ha : inI a) (hb : inI b) (na : nanB a = false) (nb : nanB b = false) (h : sr a < sr b) : ordI a b = -1 := by
  unfold ordI
  rw [canon_id na, canon_id nb, cmpI_lt]
  have h1 := of_decide_eq_false na; have h2 := of_decide_eq_false nb
  unfold inI at ha hb
  unfold sr at h
  unfold rankI
  split at h <;> split at h <;> repeat' split <;> omega
theorem ord_gt {a b : Int} (ha : inI a) (hb : inI b) (na : nanB a = false) (nb : nanB b = false) (h : sr b < sr a) : ordI a b = 1 := by
  rw [ordI_neg, ord_lt hb ha nb na h]; rfl
theorem ord_eq {a b : Int} (ha : inI a) (hb : inI b) (na : nanB a = false) (nb : nanB b = false) : ordI a b = 0 ↔ a = b := by
  unfold ordI
  rw [canon_id na, canon_id nb, cmpI_eq]
  unfold inI at ha hb
  unfold rankI
  repeat' split <;> omega

/-- How the language's order and the order by bits stand to each other: five ways. -/
theorem order_ways {a b : Int} (ha : inI a) (hb : inI b) :
    (FloatKind.f64.format.order (wd a) (wd b) = none) ∨ (FloatKind.f64.format.order (wd a) (wd b) = some .lt ∧ ordI a b = -1) ∨ (FloatKind.f64.format.order (wd a) (wd b) = some .gt ∧ ordI a b = 1) ∨
    (FloatKind.f64.format.order (wd a) (wd b) = some .eq ∧ a = b ∧ ordI a b = 0) ∨ (FloatKind.f64.format.order (wd a) (wd b) = some .eq ∧ (a == b) = false ∧ (ordI a b = -1 ∨ ordI a b = 1)) := by
  cases na : nanB a
  · cases nb : nanB b
    · rw [order_sr ha hb na nb]
      have key : ∀ x y : Int, (x < y ∧ compare x y = .lt) ∨ (y < x ∧ compare x y = .gt) ∨ (x = y ∧ compare x y = .eq) := fun x y => by
        simp only [compare, compareOfLessAndEq]
        by_cases h1 : x < y
        · exact Or.inl ⟨h1, by rw [if_pos h1]⟩
        · by_cases h2 : x = y
          · exact Or.inr (Or.inr ⟨h2, by rw [if_neg h1, if_pos h2]⟩)
          · exact Or.inr (Or.inl ⟨by omega, by rw [if_neg h1, if_neg h2]⟩)
      rcases key (sr a) (sr b) with ⟨h, e⟩ | ⟨h, e⟩ | ⟨_, e⟩
      · exact Or.inr (Or.inl ⟨by rw [e], ord_lt ha hb na nb h⟩)
      · exact Or.inr (Or.inr (Or.inl ⟨by rw [e], ord_gt ha hb na nb h⟩))
      · by_cases hab : a = b
        · exact Or.inr (Or.inr (Or.inr (Or.inl ⟨by rw [e], hab, (ord_eq ha hb na nb).2 hab⟩)))
        · refine Or.inr (Or.inr (Or.inr (Or.inr ⟨by rw [e], by simpa using hab, ?_⟩)))
          have := mt (ord_eq ha hb na nb).1 hab
          rcases ordI_cases a b with h | h | h
          · exact Or.inl h
          · exact absurd h this
          · exact Or.inr h
    · exact Or.inl (order_none (Or.inr (by rw [nanB_wd]; exact nb)))
  · exact Or.inl (order_none (Or.inl (by rw [nanB_wd]; exact na)))

theorem flip_in {n : Int} (h : inI n) : inI (flipI n) := by unfold flipI inI at *; split <;> omega
theorem flip_nan {n : Int} (_h : inI n) : nanB (flipI n) = nanB n := by
  unfold nanB flipI
  rw [Bool.eq_iff_iff, decide_eq_true_iff, decide_eq_true_iff]
  split <;> omega
theorem flip_ord {a b : Int} (ha : inI a) (hb : inI b) (na : nanB a = false) (nb : nanB b = false) : ordI (flipI a) (flipI b) = -ordI a b := by
  have na' : nanB (flipI a) = false := by rw [flip_nan ha]; exact na
  have nb' : nanB (flipI b) = false := by rw [flip_nan hb]; exact nb
  unfold ordI
  rw [canon_id na, canon_id nb, canon_id na', canon_id nb', cmpI_neg]
  congr 1
  have e : ∀ {n : Int}, inI n → rankI (flipI n) = 18446744073709551615 - rankI n := fun {n} hn => by
    unfold inI at hn
    unfold rankI flipI
    repeat' split <;> omega
  rw [e ha, e hb]
  unfold cmpI
  repeat' split <;> omega

theorem xor_top (r : Nat) (h : r < 2 ^ 63) : r ^^^ 2 ^ 63 = r + 2 ^ 63 := by
  have e : r ^^^ 2 ^ 63 = 2 ^ 63 ||| r := by
    apply Nat.eq_of_testBit_eq
    intro i
    rw [Nat.testBit_xor, Nat.testBit_or, Nat.testBit_two_pow]
    by_cases hi : 63 = i
    · subst hi
      rw [Nat.testBit_lt_two_pow h]
      simp
    · simp [hi]
  rw [e, nat_join 63 _ _ (by decide) h, Nat.add_comm]

theorem ofInt64 (n : Int) : (BitVec.ofInt 64 n).toNat = wd n := by unfold wd; rw [BitVec.toNat_ofInt]; rfl

theorem xor_sign {n : Int} (h : inI n) : bits .xor .i64 n (-9223372036854775808) = flipI n := by
  unfold inI at h
  have e1 : (BitVec.ofInt 64 (-9223372036854775808)).toNat = 2 ^ 63 := by decide
  show IntKind.i64.wrap (((BitVec.ofInt 64 n) ^^^ (BitVec.ofInt 64 (-9223372036854775808))).toNat : Nat) = flipI n
  rw [BitVec.toNat_xor, ofInt64, e1]
  unfold flipI
  by_cases hn : n < 0
  · rw [if_pos hn]
    have hw : wd n = (n + 9223372036854775808).toNat + 2 ^ 63 := by unfold wd; omega
    rw [hw, ← xor_top _ (by omega), Nat.xor_assoc, Nat.xor_self, Nat.xor_zero, IntKind.wrap_i64]
    omega
  · rw [if_neg hn]
    have hw : wd n = n.toNat := by unfold wd; omega
    rw [hw, xor_top _ (by omega), IntKind.wrap_i64]
    omega

end Go.Proofs.YtpjkhholpbfbpaaDoor

/- float.From for every slice of bytes: the number of its eight bytes, or nought and false. Conditions: the slice holds those bytes. -/
namespace Go.Proofs.YtpjkhholpbfbpaaDoor
open Go.RowKit

def unrankI (r : Int) : Int := if r < 9223372036854775808 then -1 - r else r - 9223372036854775808
theorem unrank_rank {n : Int} (h : inI n) : unrankI (rankI n) = n := by unfold unrankI rankI inI at *; repeat' split <;> omega
theorem unrank_in {r : Int} (h0 : 0 ≤ r) (h : r < 18446744073709551616) : inI (unrankI r) := by unfold unrankI inI; split <;> omega

theorem topR {r : Int} (h0 : 0 ≤ r) (h : r < 18446744073709551616) : (bits .and .u64 r 9223372036854775808 != 0) = decide (9223372036854775808 ≤ r) := by
  rw [u64_and _ _ (by omega) (by omega) (by omega) (by omega)]
  have e : r.toNat &&& (9223372036854775808 : Int).toNat = r.toNat / 2 ^ 63 % 2 * 2 ^ 63 := nat_bit 63 _
  rw [e]
  by_cases hn : 9223372036854775808 ≤ r
  · rw [decide_eq_true hn, bne_iff_ne]; omega
  · rw [decide_eq_false hn]; simp; omega
theorem turnR {r : Int} (h0 : 0 ≤ r) (h : r < 18446744073709551616) : bits .xor .u64 IntKind.u64.max r = 18446744073709551615 - r := by
  have hm : IntKind.u64.max = 18446744073709551615 := rfl
  rw [hm, u64_xor _ _ (by omega) (by omega) (by omega) (by omega)]
  obtain ⟨k, rfl⟩ := toNat_ofNat h0
  have hk2 : k < 2 ^ 64 := by omega
  have e : (18446744073709551615 : Int).toNat ^^^ (k : Int).toNat = 2 ^ 64 - 1 - k := by
    rw [show (18446744073709551615 : Int).toNat = 2 ^ 64 - 1 from rfl, Int.toNat_natCast]
    apply Nat.eq_of_testBit_eq
    intro i
    rw [Nat.testBit_xor, Nat.testBit_two_pow_sub_one, show 2 ^ 64 - 1 - k = 2 ^ 64 - (k + 1) by omega, Nat.testBit_two_pow_sub_succ hk2]
    by_cases hi : i < 64
    · simp [hi]
    · have : k.testBit i = false := Nat.testBit_lt_two_pow (Nat.lt_of_lt_of_le hk2 (Nat.pow_le_pow_right (by omega) (by omega)))
      simp [hi, this]
  rw [e]
  omega
theorem clearR {r : Int} (h0 : 0 ≤ r) (h : r < 18446744073709551616) : bits .andNot .u64 r 9223372036854775808 = r % 9223372036854775808 := by
  rw [u64_andNot _ _ (by omega) (by omega) (by omega) (by omega)]
  have e : r.toNat &&& (18446744073709551615 - (9223372036854775808 : Int).toNat) = r.toNat % 2 ^ 63 := Nat.and_two_pow_sub_one_eq_mod _ 63
  rw [e]
  omega

set_option maxHeartbeats 400000 in
theorem unrank_any {r : Int} (h0 : 0 ≤ r) (h : r < 18446744073709551616) (w : World) :
    Calls Tryd.prog 134 #[.int .u64 r] w fun e w' => e = .returned (.int .i64 (unrankI r)) ∧ w = w' := by
  have ht := topR h0 h
  have hx := turnR h0 h
  have hcl := clearR h0 h
  by_cases hn : 9223372036854775808 ≤ r
  · rw [decide_eq_true hn] at ht
    have hw : wrap64 (bits .andNot .u64 r 9223372036854775808) = unrankI r := by rw [hcl]; unfold wrap64 unrankI; rw [if_neg (by omega)]; omega
    rw [← hw]
    clear hx hcl hn h h0 hw
    go_enter Tryd.func134, Tryd.ntmps134
    go_wp2
    go_ret
    exact ⟨rfl, rfl⟩
  · rw [decide_eq_false hn] at ht
    have hw : wrap64 (bits .xor .u64 IntKind.u64.max r) = unrankI r := by rw [hx]; unfold wrap64 unrankI; rw [if_pos (by omega)]; omega
    rw [← hw]
    clear hx hcl hn h h0 hw
    go_enter Tryd.func134, Tryd.ntmps134
    go_wp2
    go_ret
    exact ⟨rfl, rfl⟩

theorem or_byte {r : Int} (h0 : 0 ≤ r) (h : r < 72057594037927936) (x : Nat) (hx : x < 256) : bits .or .u64 (r * 256) (x : Int) = r * 256 + x := by
  rw [u64_or _ _ (by omega) (by omega) (by omega) (by omega), Int.toNat_natCast]
  have e := nat_join 8 (r * 256).toNat x (by omega) hx
  rw [e]
  omega

set_option maxHeartbeats 1000000 in
theorem from_no {a : Option Addr} (n c : Nat) (hn : n ≠ 8) (w : World) :
    Calls Tryd.prog 118 #[.slice a n c] w fun e w' => e = .returned (.tuple #[.int .i64 0, .bool false]) ∧ w = w' := by
  have h8 : ((n : Int) == 8) = false := by simpa using fun h => hn (by omega)
  go_enter Tryd.func118, Tryd.ntmps118
  go_wp2
  go_ret2
  exact ⟨rfl, rfl⟩

def fromEnd (n : Int) : Ending := if rightB n = true then .returned (.tuple #[.int .i64 n, .bool true]) else .returned (.tuple #[.int .i64 0, .bool false])

set_option maxHeartbeats 1000000 in
set_option maxRecDepth 100000 in
theorem from_yes (l : List UInt8) (hl : l.length = 8) (b c : Nat) (w : World) (hcells : ∀ i, i < 8 → w.cell? ⟨b, i, none⟩ = some (.int .u8 ((l.getD i 0).toNat : Int))) :
    Calls Tryd.prog 118 #[.slice (some ⟨b, 0, none⟩) 8 c] w fun e w' => e = fromEnd (unrankI (foldB l)) ∧ w = w' := by
  have HL := hid hl
  have HC := hid hcells
  clear hl hcells
  go_enter Tryd.func118, Tryd.ntmps118
  go_wp2
  go_loop [4, 13] (fun vr vi => ∃ (k : Nat) (r : Int), k ≤ 8 ∧ vr = .int .u64 r ∧ vi = .int .i64 k ∧ 0 ≤ r ∧ r = foldB (l.take k)) (fun _ vi => 8 - (intOf vi).toNat)
  case atStart => exact ⟨0, 0, by omega, rfl, rfl, by omega, rfl⟩
  case round =>
    obtain ⟨k, r, hk, rfl, rfl, hr0, hr⟩ := hrel
    by_cases hlt : k < 8
    · have hb : r < 72057594037927936 := by
        have h1 := foldB_lt (l.take k)
        have h2 : (l.take k).length ≤ 7 := by rw [List.length_take]; omega
        have h3 : 256 ^ (l.take k).length ≤ 256 ^ 7 := Nat.pow_le_pow_right (by omega) h2
        rw [hr]
        omega
      have hcell := HC.out k hlt
      have hx := (l.getD k 0).toNat_lt
      obtain ⟨x, hxe⟩ : ∃ x, (l.getD k 0).toNat = x := ⟨_, rfl⟩
      rw [hxe] at hcell hx
      have hor := or_byte hr0 hb x (by omega)
      have HN : Hid (r * 256 + x = ((foldB (l.take (k + 1)) : Nat) : Int)) := hid (by rw [foldB_take l k (by rw [HL.out]; exact hlt), hxe, hr]; omega)
      have hx2 : x ≤ 255 := by omega
      clear hr hxe hx
      go_wp2
      go_round
      case rel => exact ⟨k + 1, r * 256 + x, by omega, rfl, by go_num, by omega, HN.out⟩
      case measure => simp [intOf]; omega
    · obtain rfl : k = 8 := by omega
      have hr8 : r = foldB l := by rw [hr, List.take_of_length_le (by rw [HL.out]; omega)]
      have hb : r < 18446744073709551616 := by
        have h1 := foldB_lt l
        rw [HL.out] at h1
        rw [hr8]
        have : (256 : Nat) ^ 8 = 18446744073709551616 := by decide
        omega
      obtain ⟨n, hn⟩ : ∃ n, unrankI (foldB l) = n := ⟨_, rfl⟩
      have hun : unrankI r = n := by rw [hr8]; exact hn
      have HU : Hid (∀ W, Calls Tryd.prog 134 #[.int .u64 r] W fun e w' => e = .returned (.int .i64 n) ∧ W = w') := fun W => by rw [← hun]; exact unrank_any hr0 hb W
      have hin : inI n := by rw [← hun]; exact unrank_in hr0 hb
      clear hr hr8 hb hr0 hun
      cases hrt : rightB n
      · have HFE : Hid (fromEnd (unrankI (foldB l)) = .returned (.tuple #[.int .i64 0, .bool false])) := by show fromEnd (unrankI (foldB l)) = _; rw [hn]; unfold fromEnd; rw [if_neg (by rw [hrt]; decide)]
        clear hn
        go_wp2_with (first | (go_at_call 134; refine (HU.out _).mono ?_; rintro e w' ⟨rfl, rfl⟩) | (go_at_call 96; refine (right_any (by assumption) _).mono ?_; rintro e w' ⟨rfl, rfl⟩))
        go_ret2
        rw [HFE.out]
        exact ⟨rfl, rfl⟩
      · have HFE : Hid (fromEnd (unrankI (foldB l)) = .returned (.tuple #[.int .i64 n, .bool true])) := by show fromEnd (unrankI (foldB l)) = _; rw [hn]; unfold fromEnd; rw [if_pos hrt]
        clear hn
        go_wp2_with (first | (go_at_call 134; refine (HU.out _).mono ?_; rintro e w' ⟨rfl, rfl⟩) | (go_at_call 96; refine (right_any (by assumption) _).mono ?_; rintro e w' ⟨rfl, rfl⟩))
        go_ret2
        rw [HFE.out]
        exact ⟨rfl, rfl⟩

end Go.Proofs.YtpjkhholpbfbpaaDoor

/- Rows of bytes in order, and what Bytes, Show and Read of package float give in a later world. Conditions: the table of math/bits reads as it is laid. -/
namespace Go.Proofs.YtpjkhholpbfbpaaDoor
open Go.RowKit

/-- Where two rows of bytes part: below, level or above. -/
def lexC : List UInt8 → List UInt8 → Int
  | a :: u, b :: v => if a.toNat < b.toNat then -1 else if b.toNat < a.toNat then 1 else lexC u v
  | _, _ => 0

theorem foldB_cons (l : List UInt8) (x : UInt8) : foldB (x :: l) = x.toNat * 256 ^ l.length + foldB l := by
  induction h : l.length generalizing l with
  | zero => have : l = [] := List.length_eq_zero_iff.1 h
            subst this; simp [foldB]
  | succ n ih =>
    obtain ⟨l', y, rfl⟩ : ∃ l' y, l = l' ++ [y] := ⟨l.dropLast, l.getLast (by intro e; rw [e] at h; simp at h), (List.dropLast_concat_getLast _).symm⟩
    have hl : l'.length = n := by simpa using h
    rw [← List.cons_append, foldB_snoc, foldB_snoc, ih l' hl, Nat.pow_succ, Nat.add_mul, Nat.mul_assoc]
    omega

theorem lexC_fold (l m : List UInt8) (h : l.length = m.length) : lexC l m = cmpI (foldB l) (foldB m) := by
  induction l generalizing m with
  | nil => cases m with
    | nil => rfl
    | cons => simp at h
  | cons a u ih => cases m with
    | nil => simp at h
    | cons b bs =>
      have h' : u.length = bs.length := by simpa using h
      have h1 := foldB_lt u
      have h2 := foldB_lt bs
      rw [foldB_cons, foldB_cons, lexC, ih bs h', h']
      rw [h'] at h1
      generalize 256 ^ bs.length = P at *
      have ml : ∀ x y : Nat, x < y → x * P + P ≤ y * P := fun x y hxy => by
        have := Nat.mul_le_mul_right P (show x + 1 ≤ y from hxy)
        rw [Nat.add_mul, Nat.one_mul] at this
        exact this
      by_cases c1 : a.toNat < b.toNat
      · rw [if_pos c1]
        have := ml _ _ c1
        exact (cmpI_lt.2 (by omega)).symm
      · rw [if_neg c1]
        by_cases c2 : b.toNat < a.toNat
        · rw [if_pos c2]
          have := ml _ _ c2
          exact (cmpI_gt.2 (by omega)).symm
        · rw [if_neg c2]
          have e : a.toNat = b.toNat := by omega
          rw [e]
          unfold cmpI
          repeat' split <;> omega

theorem lexC_drop (l m : List UInt8) (k : Nat) (h : k < l.length) (h' : k < m.length) :
    lexC (l.drop k) (m.drop k) = if (l.getD k 0).toNat < (m.getD k 0).toNat then -1 else if (m.getD k 0).toNat < (l.getD k 0).toNat then 1 else lexC (l.drop (k + 1)) (m.drop (k + 1)) := by
  rw [List.drop_eq_getElem_cons h, List.drop_eq_getElem_cons h', lexC]
  simp only [List.getD_eq_getElem?_getD, List.getElem?_eq_getElem h, List.getElem?_eq_getElem h', Option.getD_some]

theorem right_canon {n : Int} (h : rightB n = true) : canonI n = n := by
  unfold rightB at h
  unfold canonI
  cases hb : nanB n
  · rw [if_neg (by decide)]
  · rw [hb] at h
    simp at h
    rw [if_pos rfl, h]

/-- The bytes of right numbers are in order as they are. -/
theorem lexC_order {a b : Int} (ha : inI a) (hb : inI b) (ra : rightB a = true) (rb : rightB b = true) : lexC (byW 8 (rankI a).toNat) (byW 8 (rankI b).toNat) = ordI a b := by
  obtain ⟨a0, a1⟩ := rank_in ha
  obtain ⟨b0, b1⟩ := rank_in hb
  have p : (256 : Nat) ^ 8 = 18446744073709551616 := by decide
  rw [lexC_fold _ _ (by rw [byW_len, byW_len]), foldB_byW 8 _ (by omega), foldB_byW 8 _ (by omega)]
  unfold ordI
  rw [right_canon ra, right_canon rb, Int.toNat_of_nonneg a0, Int.toNat_of_nonneg b0]

theorem from_bytes {n : Int} (h : inI n) (r : rightB n = true) : fromEnd (unrankI (foldB (byW 8 (rankI n).toNat))) = .returned (.tuple #[.int .i64 n, .bool true]) := by
  obtain ⟨a0, a1⟩ := rank_in h
  have p : (256 : Nat) ^ 8 = 18446744073709551616 := by decide
  rw [foldB_byW 8 _ (by omega), Int.toNat_of_nonneg a0, unrank_rank h]
  unfold fromEnd
  rw [if_pos r]

/-- A block that holds bytes: its cells. -/
theorem Blk.bytes {w : World} {b : Nat} {l : List UInt8} (h : Blk w b 5 (bc l).toArray) (i : Nat) (hi : i < l.length) : w.cell? ⟨b, i, none⟩ = some (.int .u8 ((l.getD i 0).toNat : Int)) := by
  rw [h.cell]
  simp [bc, List.getElem?_eq_getElem hi]

theorem bytes_carried {n : Int} (h : inI n) (r : rightB n = true) (w W : World) (hW : Below w.heap.size w W) :
    Calls Tryd.prog 89 #[.int .i64 n] W fun e w' => e = .returned (.slice (some ⟨W.heap.size, 0, none⟩) 8 8) ∧ Blk w' W.heap.size 5 (bc (byW 8 (rankI n).toNat)).toArray ∧ Below w.heap.size w w' ∧ Below W.heap.size W w' :=
  (bytes_yes h r W).mono fun _ _ ⟨he, hB, hb⟩ => ⟨he, hB, hW.trans (hb.mono hW.size), hb⟩
theorem canon_nan {n : Int} (h : nanB n = true) : canonI n = 9221120237041090560 := by unfold canonI; rw [if_pos h]
theorem canon_num {n : Int} (h : nanB n = false) : canonI n = n := by unfold canonI; rw [if_neg (by rw [h]; decide)]
theorem right_num {n : Int} (h : nanB n = false) : rightB n = true := by unfold rightB; rw [h]; simp
theorem right_other {n : Int} (h : nanB n = true) (hn : ¬ n = 9221120237041090560) : rightB n = false := by unfold rightB; rw [h]; simpa using hn
theorem in_nan : inI 9221120237041090560 := by unfold inI; omega
theorem right_nan : rightB 9221120237041090560 = true := by decide

theorem nan_of_right {n : Int} (h : rightB n = true) (hn : ¬ n = 9221120237041090560) : nanB n = false := by
  unfold rightB at h
  cases hb : nanB n
  · rfl
  · rw [hb] at h
    simp at h
    exact absurd h hn

end Go.Proofs.YtpjkhholpbfbpaaDoor
