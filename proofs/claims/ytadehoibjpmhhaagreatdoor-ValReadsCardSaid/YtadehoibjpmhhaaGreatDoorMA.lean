/- Several texts in one: FM FA FB FH FC VL FD FE FF FG FN FQ FR VM. Conditions: as each theorem names them. -/
import Derived.Laws.BitsAllLaws
import Derived.Laws.Bits64
import Derived.Laws.Cover2
import Derived.IntWalk
import Derived.Test.YtadehoibjpmhhaaGreatDoorRows
import Derived.WalkKit
import Derived.WalkSpells
import Derived.WalkLawsBesides
import Derived.Below
import Derived.RowKit
import Derived.Deep.Light
import Derived.Lib.SmallJoins
import Derived.Lib.ItoaNum
import Derived.Shelf.Unicode.DecodeSlow
import Derived.Lib.AtoiErrMem
import Derived.Lib.Strings
import Derived.Deep.QuietTactic
import Derived.BigQuiet
import Derived.Lib.ValidLaws
import Derived.Lib.Bytealg
/- Plain mathematics of 64 bits as floats, without the program: NaN, the order of IEEE doubles by their bits, ranks, turned bits. No conditions but the ranges that each lemma names. -/
namespace Go.Proofs.YtadehoibjpmhhaaGreatDoor
open Go.RowKit (wrap64)

/-- Are these bits a NaN's? -/
def nanB (n : Int) : Bool := decide (9218868437227405312 < n % 9223372036854775808)
def canonI (n : Int) : Int := if nanB n = true then 9221120237041090560 else n
def rightB (n : Int) : Bool := (n == 9221120237041090560) || !nanB n
def rankI (n : Int) : Int := if n < 0 then -1 - n else n + 9223372036854775808
def cmpI (a b : Int) : Int := if a < b then -1 else if b < a then 1 else 0
def ordI (a b : Int) : Int := cmpI (rankI (canonI a)) (rankI (canonI b))
def wd (n : Int) : Nat := (n % 18446744073709551616).toNat
/-- The other sign. -/
def flipI (n : Int) : Int := if n < 0 then n + 9223372036854775808 else n - 9223372036854775808
def inI (n : Int) : Prop := -9223372036854775808 ≤ n ∧ n < 9223372036854775808

theorem wd_lt (n : Int) : wd n < 18446744073709551616 := by unfold wd; omega
theorem wd_u64 (n : Int) : (IntKind.u64.wrap n).toNat = wd n := by rw [IntKind.wrap_u64]; rfl
theorem wd_mod (n : Int) : ((wd n % 9223372036854775808 : Nat) : Int) = n % 9223372036854775808 := by unfold wd; omega
theorem wrap64_wd {n : Int} (h : inI n) : wrap64 (wd n : Int) = n := by unfold wd wrap64 inI at *; omega

theorem width63 : Ieee.double.signWeight = 9223372036854775808 := by decide
theorem inf_rung : Ieee.double.infRung = 9218868437227405312 := by decide
theorem binade52 : Ieee.double.binade = 4503599627370496 := by decide
theorem f64_format : FloatKind.f64.format = Ieee.double := rfl

/-- The size of the number of a rung, in units of the least number. -/
def mg (r : Nat) : Nat := if r < 4503599627370496 then r else (4503599627370496 + r % 4503599627370496) * 2 ^ (r / 4503599627370496 - 1)

theorem mg_mono {a b : Nat} (h : a < b) : mg a < mg b := by
  unfold mg
  by_cases ha : a < 4503599627370496
  · rw [if_pos ha]
    by_cases hb : b < 4503599627370496
    · rw [if_pos hb]; exact h
    · rw [if_neg hb]
      have : 1 ≤ 2 ^ (b / 4503599627370496 - 1) := Nat.one_le_two_pow
      calc a < 4503599627370496 := ha
        _ ≤ (4503599627370496 + b % 4503599627370496) * 1 := by omega
        _ ≤ _ := Nat.mul_le_mul_left _ this
  · rw [if_neg ha, if_neg (by omega)]
    obtain ⟨q, hq⟩ : ∃ q, a / 4503599627370496 = q + 1 := ⟨a / 4503599627370496 - 1, by omega⟩
    obtain ⟨q', hq'⟩ : ∃ q', b / 4503599627370496 = q' + 1 := ⟨b / 4503599627370496 - 1, by omega⟩
    rw [hq, hq', Nat.add_sub_cancel, Nat.add_sub_cancel]
    have hle : q ≤ q' := by omega
    by_cases he : q = q'
    · subst he
      exact Nat.mul_lt_mul_of_pos_right (by omega) (Nat.two_pow_pos _)
    · have h1 : 2 ^ (q + 1) ≤ 2 ^ q' := Nat.pow_le_pow_right (by omega) (by omega)
      have h2 : (4503599627370496 + a % 4503599627370496) * 2 ^ q < 4503599627370496 * 2 ^ (q + 1) := by
        rw [Nat.pow_succ, Nat.mul_comm (2 ^ q) 2, ← Nat.mul_assoc]
        exact Nat.mul_lt_mul_of_pos_right (by omega) (Nat.two_pow_pos _)
      calc _ < 4503599627370496 * 2 ^ (q + 1) := h2
        _ ≤ 4503599627370496 * 2 ^ q' := Nat.mul_le_mul_left _ h1
        _ ≤ _ := Nat.mul_le_mul_right _ (by omega)

/-- The signed size: what the number is, in units of the least number. -/
def sg (neg : Bool) (r : Nat) : Int := if neg then -(mg r : Int) else (mg r : Int)

theorem read_cases (u : Nat) :
    (∃ m p, Ieee.double.read u = .number (u / 9223372036854775808 % 2 == 1) m p ∧ u % 9223372036854775808 < 9218868437227405312 ∧ Ieee.double.leastPlace ≤ p ∧ m <<< (p - Ieee.double.leastPlace).toNat = mg (u % 9223372036854775808)) ∨
    (Ieee.double.read u = .infinity (u / 9223372036854775808 % 2 == 1) ∧ u % 9223372036854775808 = 9218868437227405312) ∨
    (∃ t, Ieee.double.read u = .nan (u / 9223372036854775808 % 2 == 1) t ∧ 9218868437227405312 < u % 9223372036854775808) := by
  have key : Ieee.double.read u = (if u % 9223372036854775808 < 4503599627370496 then .number (u / 9223372036854775808 % 2 == 1) (u % 9223372036854775808) Ieee.double.leastPlace
    else if u % 9223372036854775808 < 9218868437227405312 then
    .number (u / 9223372036854775808 % 2 == 1) (4503599627370496 + u % 9223372036854775808 % 4503599627370496) (Ieee.double.leastPlace + (u % 9223372036854775808 / 4503599627370496 - 1 : Nat))
  else if u % 9223372036854775808 = 9218868437227405312 then .infinity (u / 9223372036854775808 % 2 == 1)
  else .nan (u / 9223372036854775808 % 2 == 1) (u % 9223372036854775808 - 9218868437227405312)) := by
    unfold Ieee.Format.read
    rw [width63, inf_rung, binade52]
  rw [key]
  by_cases h1 : u % 9223372036854775808 < 4503599627370496
  · refine Or.inl ⟨u % 9223372036854775808, Ieee.double.leastPlace, by rw [if_pos h1], by omega, Int.le_refl _, ?_⟩
    unfold mg
    rw [if_pos h1, Int.sub_self]
    rfl
  · rw [if_neg h1]
    by_cases h2 : u % 9223372036854775808 < 9218868437227405312
    · refine Or.inl ⟨_, _, by rw [if_pos h2], h2, by omega, ?_⟩
      unfold mg
      rw [if_neg h1, Nat.shiftLeft_eq]
      congr 2
      omega
    · rw [if_neg h2]
      by_cases h3 : u % 9223372036854775808 = 9218868437227405312
      · exact Or.inr (Or.inl ⟨by rw [if_pos h3], h3⟩)
      · exact Or.inr (Or.inr ⟨_, by rw [if_neg h3], by omega⟩)

theorem order_nan (u : Nat) : (FloatKind.f64.format.order u u != some Ordering.eq) = nanB (u : Int) := by
  rw [f64_format]
  unfold Ieee.Format.order nanB
  have hc : ((u : Int) % 9223372036854775808) = ((u % 9223372036854775808 : Nat) : Int) := by omega
  rcases read_cases u with ⟨m, p, hr, hlt, _, _⟩ | ⟨hr, he⟩ | ⟨t, hr, hlt⟩
  · rw [hr, decide_eq_false (by omega)]
    simp [Ieee.Datum.order]
  · rw [hr, decide_eq_false (by omega)]
    simp [Ieee.Datum.order]
  · rw [hr, decide_eq_true (by omega)]
    simp [Ieee.Datum.order]

/-- The place in the language's order of what is no NaN: by sign and rung; the two noughts are one. -/
def sr (n : Int) : Int := if n < 0 then -(n % 9223372036854775808) else n % 9223372036854775808

theorem signed_eq (neg : Bool) (m : Nat) (p base : Int) (h : base ≤ p) (hb : Ieee.double.leastPlace ≤ base) {r : Nat} (hm : m <<< (p - Ieee.double.leastPlace).toNat = mg r) :
    Ieee.signed neg m (p - base).toNat * (2 ^ (base - Ieee.double.leastPlace).toNat : Nat) = sg neg r := by
  have e : (m <<< (p - base).toNat) * 2 ^ (base - Ieee.double.leastPlace).toNat = mg r := by
    rw [← hm, Nat.shiftLeft_eq, Nat.shiftLeft_eq, Nat.mul_assoc, ← Nat.pow_add]
    congr 2
    omega
  unfold Ieee.signed sg
  cases neg
  · simp only [Bool.false_eq_true, if_false]
    rw [← e]; push_cast; rfl
  · simp only [if_true]
    rw [← e, Int.neg_mul]; push_cast; rfl

theorem sg_lt {s t : Bool} {a b : Nat} : sg s a < sg t b ↔ (if s then -(a : Int) else (a : Int)) < (if t then -(b : Int) else (b : Int)) := by
  have h0 : mg 0 = 0 := rfl
  have mono := @mg_mono
  have lt_iff : ∀ x y : Nat, mg x < mg y ↔ x < y := fun x y => ⟨fun h => by
    rcases Nat.lt_trichotomy x y with h' | h' | h'
    · exact h'
    · subst h'; omega
    · have := mono h'; omega, fun h => mono h⟩
  have p0 : ∀ x : Nat, 0 < mg x ↔ 0 < x := fun x => by have := lt_iff 0 x; rwa [h0] at this
  unfold sg
  have l1 := lt_iff a b; have l2 := lt_iff b a; have q1 := p0 a; have q2 := p0 b
  cases s <;> cases t <;> simp only [Bool.false_eq_true, if_false, if_true] <;> omega

theorem compare_scale (x y : Int) (k : Nat) (hk : 0 < k) : compare (x * (k : Int)) (y * (k : Int)) = compare x y := by
  have hk' : (0 : Int) < (k : Int) := by omega
  simp only [compare, compareOfLessAndEq]
  by_cases h : x < y
  · rw [if_pos h, if_pos (Int.mul_lt_mul_of_pos_right h hk')]
  · rw [if_neg h, if_neg (fun h' => h (Int.lt_of_mul_lt_mul_right h' (Int.le_of_lt hk')))]
    by_cases e : x = y
    · subst e; simp
    · rw [if_neg e, if_neg (fun h' => e (Int.eq_of_mul_eq_mul_right (by omega) h'))]

theorem compare_sg (s t : Bool) (a b : Nat) : compare (sg s a) (sg t b) = compare (if s then -(a : Int) else (a : Int)) (if t then -(b : Int) else (b : Int)) := by
  have h1 := @sg_lt s t a b
  have h2 := @sg_lt t s b a
  simp only [compare, compareOfLessAndEq]
  generalize hx : (if s then -(a : Int) else (a : Int)) = x at *
  generalize hy : (if t then -(b : Int) else (b : Int)) = y at *
  by_cases h : sg s a < sg t b
  · rw [if_pos h, if_pos (h1.1 h)]
  · rw [if_neg h, if_neg (fun h' => h (h1.2 h'))]
    by_cases e : sg s a = sg t b
    · rw [if_pos e, if_pos (by omega)]
    · rw [if_neg e, if_neg (by omega)]

/-- A signed rung. -/
def sru (s : Bool) (r : Nat) : Int := if s then -(r : Int) else (r : Int)

theorem order_core (u v : Nat) (hu : ¬ 9218868437227405312 < u % 9223372036854775808) (hv : ¬ 9218868437227405312 < v % 9223372036854775808) :
    Ieee.double.order u v = some (compare (sru (u / 9223372036854775808 % 2 == 1) (u % 9223372036854775808)) (sru (v / 9223372036854775808 % 2 == 1) (v % 9223372036854775808))) := by
  unfold Ieee.Format.order
  have cmpLt : ∀ {x y : Int}, x < y → compare x y = .lt := fun h => by simp only [compare, compareOfLessAndEq]; rw [if_pos h]
  have cmpGt : ∀ {x y : Int}, y < x → compare x y = .gt := fun h => by simp only [compare, compareOfLessAndEq]; rw [if_neg (by omega), if_neg (by omega)]
  generalize hs : (u / 9223372036854775808 % 2 == 1) = s
  generalize ht : (v / 9223372036854775808 % 2 == 1) = t
  rcases read_cases u with ⟨m, p, hr, hlt, hp, hm⟩ | ⟨hr, he⟩ | ⟨_, _, h⟩
  · rcases read_cases v with ⟨n, q, kr, klt, kp, km⟩ | ⟨kr, ke⟩ | ⟨_, _, h⟩
    · rw [hr, kr, hs, ht]
      simp only [Ieee.Datum.order]
      rw [← compare_scale _ _ (2 ^ (min p q - Ieee.double.leastPlace).toNat) (Nat.two_pow_pos _),
        signed_eq s m p (min p q) (by omega) (by omega) hm, signed_eq t n q (min p q) (by omega) (by omega) km, compare_sg]
      rfl
    · rw [hr, kr, hs, ht]
      simp only [Ieee.Datum.order]
      cases t
      · rw [cmpLt]; · rfl
        unfold sru; cases s <;> simp <;> omega
      · rw [cmpGt]; · rfl
        unfold sru; cases s <;> simp <;> omega
    · exact absurd h hv
  · rcases read_cases v with ⟨n, q, kr, klt, kp, km⟩ | ⟨kr, ke⟩ | ⟨_, _, h⟩
    · rw [hr, kr, hs, ht]
      simp only [Ieee.Datum.order]
      cases s
      · rw [cmpGt]; · rfl
        unfold sru; cases t <;> simp <;> omega
      · rw [cmpLt]; · rfl
        unfold sru; cases t <;> simp <;> omega
    · rw [hr, kr, hs, ht, he, ke]
      simp only [Ieee.Datum.order]
      cases s <;> cases t <;> rfl
    · exact absurd h hv
  · exact absurd h hu

/-- THE LANGUAGE's ORDER OF TWO FLOATS THAT ARE NO NaN. -/
theorem order_sr {a b : Int} (ha : inI a) (hb : inI b) (na : nanB a = false) (nb : nanB b = false) :
    FloatKind.f64.format.order (wd a) (wd b) = some (compare (sr a) (sr b)) := by
  have srE : ∀ {n : Int}, inI n → sru (wd n / 9223372036854775808 % 2 == 1) (wd n % 9223372036854775808) = sr n := by
    intro n hn
    unfold inI at hn
    unfold sru sr
    rw [wd_mod]
    by_cases h : n < 0
    · rw [if_pos h, if_pos (by unfold wd; simp; omega)]
    · rw [if_neg h, if_neg (by unfold wd; simp; omega)]
  have na' : ¬ 9218868437227405312 < wd a % 9223372036854775808 := by have := of_decide_eq_false na; have := wd_mod a; omega
  have nb' : ¬ 9218868437227405312 < wd b % 9223372036854775808 := by have := of_decide_eq_false nb; have := wd_mod b; omega
  rw [f64_format, order_core _ _ na' nb', srE ha, srE hb]

/-- With a NaN there is no order. -/
theorem order_none {u v : Nat} (h : nanB (u : Int) = true ∨ nanB (v : Int) = true) : FloatKind.f64.format.order u v = none := by
  rw [f64_format]
  unfold Ieee.Format.order
  rcases h with h | h
  · have h' := of_decide_eq_true h
    rcases read_cases u with ⟨m, p, hr, hlt, _, _⟩ | ⟨hr, he⟩ | ⟨t, hr, hlt⟩
    · omega
    · omega
    · rw [hr]; cases Ieee.double.read v <;> rfl
  · have h' := of_decide_eq_true h
    rcases read_cases v with ⟨m, p, hr, hlt, _, _⟩ | ⟨hr, he⟩ | ⟨t, hr, hlt⟩
    · omega
    · omega
    · rw [hr]; cases Ieee.double.read u <;> rfl

theorem nanB_wd (n : Int) : nanB (wd n : Int) = nanB n := by unfold nanB wd; rw [Bool.eq_iff_iff]; simp; omega

theorem toNat_ofNat {x : Int} (h : 0 ≤ x) : ∃ k : Nat, x = k := ⟨x.toNat, by omega⟩

theorem topBit {n : Int} (h : inI n) : (bits .and .u64 (IntKind.u64.wrap n) 9223372036854775808 != 0) = decide (n < 0) := by
  unfold inI at h
  rw [IntKind.wrap_u64, u64_and _ _ (by omega) (by omega) (by omega) (by omega)]
  have e : (n % 18446744073709551616).toNat &&& (9223372036854775808 : Int).toNat = (n % 18446744073709551616).toNat / 2 ^ 63 % 2 * 2 ^ 63 := nat_bit 63 _
  rw [e]
  by_cases hn : n < 0
  · rw [decide_eq_true hn, bne_iff_ne]; omega
  · rw [decide_eq_false hn]; simp; omega

theorem turned {n : Int} (h : inI n) (hn : n < 0) : bits .xor .u64 IntKind.u64.max (IntKind.u64.wrap n) = rankI n := by
  unfold inI at h
  have hm : IntKind.u64.max = 18446744073709551615 := rfl
  rw [IntKind.wrap_u64, hm, u64_xor _ _ (by omega) (by omega) (by omega) (by omega)]
  obtain ⟨k, hk⟩ : ∃ k : Nat, n % 18446744073709551616 = k := ⟨(n % 18446744073709551616).toNat, by omega⟩
  have hk2 : k < 2 ^ 64 := by omega
  rw [hk]
  have e : (18446744073709551615 : Int).toNat ^^^ (k : Int).toNat = 2 ^ 64 - 1 - k := by
    have := Nat.xor_comm (2 ^ 64 - 1) k
    rw [show (18446744073709551615 : Int).toNat = 2 ^ 64 - 1 from rfl, Int.toNat_natCast]
    apply Nat.eq_of_testBit_eq
    intro i
    rw [Nat.testBit_xor, Nat.testBit_two_pow_sub_one, show 2 ^ 64 - 1 - k = 2 ^ 64 - (k + 1) by omega, Nat.testBit_two_pow_sub_succ hk2]
    by_cases hi : i < 64
    · simp [hi]
    · have : k.testBit i = false := Nat.testBit_lt_two_pow (Nat.lt_of_lt_of_le hk2 (Nat.pow_le_pow_right (by omega) (by omega)))
      simp [hi, this]
  rw [e]
  unfold rankI
  rw [if_pos hn]
  omega

theorem marked {n : Int} (h : inI n) (hn : ¬ n < 0) : bits .or .u64 (IntKind.u64.wrap n) 9223372036854775808 = rankI n := by
  unfold inI at h
  rw [IntKind.wrap_u64, u64_or _ _ (by omega) (by omega) (by omega) (by omega)]
  have e : (n % 18446744073709551616).toNat ||| (9223372036854775808 : Int).toNat = (n % 18446744073709551616).toNat + 9223372036854775808 := by
    rw [Nat.or_comm, show (9223372036854775808 : Int).toNat = 9223372036854775808 from rfl, nat_join 63 _ _ (by decide) (by omega), Nat.add_comm]
  rw [e]
  unfold rankI
  rw [if_neg hn]
  omega

theorem canon_in {n : Int} (h : inI n) : inI (canonI n) := by unfold canonI inI at *; split <;> omega
theorem rank_in {n : Int} (h : inI n) : 0 ≤ rankI n ∧ rankI n < 18446744073709551616 := by unfold rankI inI at *; split <;> omega

end Go.Proofs.YtadehoibjpmhhaaGreatDoor

/- What the small functions of package float do, for every argument: math.IsNaN, To, Of, Right, rank, Order. Conditions: an int is one of 64 bits. -/
namespace Go.Proofs.YtadehoibjpmhhaaGreatDoor
open Go.RowKit

theorem call34 (n : Int) (w : World) : (callFunc 78 #[.int .u64 n]).run Tryz.prog w = .ok (.value (.float .f64 n.toNat)) w := by
  rw [run_callFunc_extern (e := Extern.MathFloatBits.float64frombits) Tryz.func78 (by kernel_rfl) (by kernel_rfl) (by kernel_rfl) (by kernel_rfl)]
  rfl
theorem call35 (u : Nat) (w : World) : (callFunc 100 #[.float .f64 u]).run Tryz.prog w = .ok (.value (.int .u64 u)) w := by
  rw [run_callFunc_extern (e := Extern.MathFloatBits.float64bits) Tryz.func100 (by kernel_rfl) (by kernel_rfl) (by kernel_rfl) (by kernel_rfl)]
  rfl

set_option maxHeartbeats 400000 in
theorem to_any (n : Int) (w : World) :
    Calls Tryz.prog 57 #[.int .i64 n] w fun e w' => e = .returned (.float .f64 (wd n)) ∧ w = w' := by
  rw [← wd_u64]
  have h34 := call34
  go_enter Tryz.func57, Tryz.ntmps57
  go_wp2
  go_ret
  exact ⟨rfl, rfl⟩

set_option maxHeartbeats 400000 in
theorem isnan_any (u : Nat) (w : World) :
    Calls Tryz.prog 56 #[.float .f64 u] w fun e w' => e = .returned (.bool (nanB u)) ∧ w = w' := by
  rw [← order_nan]
  go_enter Tryz.func56, Tryz.ntmps56
  go_wp2
  go_ret
  exact ⟨rfl, rfl⟩

set_option maxHeartbeats 400000 in
theorem of_any (u : Nat) (w : World) :
    Calls Tryz.prog 80 #[.float .f64 u] w fun e w' => e = .returned (.int .i64 (if nanB u = true then 9221120237041090560 else wrap64 u)) ∧ w = w' := by
  have h35 := call35
  go_enter Tryz.func80, Tryz.ntmps80
  go_wp2_with (go_at_call 56; refine (isnan_any _ _).mono ?_; rintro e w' ⟨rfl, rfl⟩)
  all_goals go_ret
  all_goals exact ⟨by simp [*], rfl⟩

theorem of_wd {n : Int} (h : inI n) (w : World) :
    Calls Tryz.prog 80 #[.float .f64 (wd n)] w fun e w' => e = .returned (.int .i64 (canonI n)) ∧ w = w' := by
  have h1 := of_any (wd n) w
  rw [nanB_wd, wrap64_wd h] at h1
  exact h1

set_option maxHeartbeats 400000 in
theorem rank_any {n : Int} (h : inI n) (w : World) :
    Calls Tryz.prog 49 #[.int .i64 n] w fun e w' => e = .returned (.int .u64 (rankI n)) ∧ w = w' := by
  have hb := topBit h
  by_cases hn : n < 0
  · have ht := turned h hn
    rw [decide_eq_true hn] at hb
    rw [← ht]
    clear ht h hn
    go_enter Tryz.func49, Tryz.ntmps49
    go_wp2
    go_ret
    exact ⟨rfl, rfl⟩
  · have ht := marked h hn
    rw [decide_eq_false hn] at hb
    rw [← ht]
    clear ht h hn
    go_enter Tryz.func49, Tryz.ntmps49
    go_wp2
    go_ret
    exact ⟨rfl, rfl⟩

theorem ret_int {k : IntKind} {a b : Int} (h : a = b) : Ending.returned (.int k a) = .returned (.int k b) := by rw [h]

theorem wrap_nan {n : Int} (h : inI n) : (IntKind.u64.wrap n = 9221120237041090560) ↔ n = 9221120237041090560 := by
  rw [IntKind.wrap_u64]; unfold inI at h; omega

set_option maxHeartbeats 400000 in
theorem right_any {n : Int} (h : inI n) (w : World) :
    Calls Tryz.prog 30 #[.int .i64 n] w fun e w' => e = .returned (.bool (rightB n)) ∧ w = w' := by
  have hw := wrap_nan h
  by_cases hn : n = 9221120237041090560
  · have h1 := hw.2 hn
    have h2 : rightB n = true := by unfold rightB; simp [hn]
    rw [h2]
    clear h2 hw hn h
    go_enter Tryz.func30, Tryz.ntmps30
    go_wp2
    go_ret
    exact ⟨rfl, rfl⟩
  · have h1 : (IntKind.u64.wrap n == 9221120237041090560) = false := by simpa using fun h' => hn (hw.1 h')
    have h2 : rightB n = !nanB (wd n) := by unfold rightB; rw [nanB_wd]; simp [hn]
    rw [h2]
    clear h2 hw hn h
    go_enter Tryz.func30, Tryz.ntmps30
    go_wp2_with (first | (go_at_call 57; refine (to_any _ _).mono ?_; rintro e w' ⟨rfl, rfl⟩) | (go_at_call 56; refine (isnan_any _ _).mono ?_; rintro e w' ⟨rfl, rfl⟩))
    go_ret
    exact ⟨rfl, rfl⟩

set_option maxHeartbeats 400000 in
theorem compare_any (x y : Int) (w : World) :
    Calls Tryz.prog 79 #[.int .u64 x, .int .u64 y] w fun e w' => e = .returned (.int .i64 (cmpI x y)) ∧ w = w' := by
  go_enter Tryz.func79, Tryz.ntmps79
  go_wp2
  all_goals go_ret
  · exact ⟨ret_int (show -1 = cmpI x y by rw [cmpI, if_pos (by assumption)]), rfl⟩
  · exact ⟨ret_int (show 1 = cmpI x y by rw [cmpI, if_neg (by omega), if_pos (by assumption)]), rfl⟩
  · exact ⟨ret_int (show 0 = cmpI x y by rw [cmpI, if_neg (by omega), if_neg (by omega)]), rfl⟩

set_option maxHeartbeats 400000 in
theorem order_any {a b : Int} (ha : inI a) (hb : inI b) (w : World) :
    Calls Tryz.prog 59 #[.int .i64 a, .int .i64 b] w fun e w' => e = .returned (.int .i64 (ordI a b)) ∧ w = w' := by
  have ca := canon_in ha
  have cb := canon_in hb
  unfold ordI
  go_enter Tryz.func59, Tryz.ntmps59
  go_wp2_with (first | (go_at_call 57; refine (to_any _ _).mono ?_; rintro e w' ⟨rfl, rfl⟩) | (go_at_call 80; refine (of_wd (by assumption) _).mono ?_; rintro e w' ⟨rfl, rfl⟩) | (go_at_call 49; refine (rank_any (by assumption) _).mono ?_; rintro e w' ⟨rfl, rfl⟩) | (go_at_call 79; refine (compare_any _ _ _).mono ?_; rintro e w' ⟨rfl, rfl⟩))
  go_ret
  exact ⟨rfl, rfl⟩

end Go.Proofs.YtadehoibjpmhhaaGreatDoor

/- strings.HasPrefix, strings.CutPrefix, strings.Repeat of "0", for the arguments that package float hands them. -/
namespace Go.Proofs.YtadehoibjpmhhaaGreatDoor
open Go.RowKit

def zeros (k : Nat) : ByteArray := ⟨(List.replicate k (48 : UInt8)).toArray⟩

set_option maxHeartbeats 400000 in
theorem mul_one {b : Int} (hb : 0 ≤ b) (hb' : b ≤ 100) (w : World) :
    Calls Tryz.prog 73 #[.int .u64 1, .int .u64 b] w fun e w' => e = .returned (.tuple #[.int .u64 0, .int .u64 b]) ∧ w = w' := by
  have a1 : bits .and .u64 1 4294967295 = 1 := by rfl
  have a2 : bits .and .u64 b 4294967295 = b := by
    rw [u64_and _ _ (by omega) (by omega) (by omega) (by omega)]
    rw [show (4294967295 : Int).toNat = 2 ^ 32 - 1 from rfl, Nat.and_two_pow_sub_one_eq_mod]
    omega
  have a3 : b / 4294967296 = 0 := by omega
  have a4 : bits .and .u64 0 4294967295 = 0 := by rfl
  go_enter Tryz.func73, Tryz.ntmps73
  go_wp2
  go_ret2
  refine ⟨?_, rfl⟩
  rfl

set_option maxHeartbeats 400000 in
theorem hp_ne (s : ByteArray) (h1 : 1 ≤ s.size) (h2 : s.size ≤ 9223372036854775807) (h : ((s.extract 0 1).toList == [48]) = false) (w : World) :
    Calls Tryz.prog 42 #[.string s, .string ⟨#[48]⟩] w fun e w' => e = .returned (.bool false) ∧ w = w' := by
  have hp1 : (⟨#[48]⟩ : ByteArray).size = 1 := rfl
  have hp2 : (⟨#[48]⟩ : ByteArray).toList = [48] := by decide +kernel
  go_enter Tryz.func42, Tryz.ntmps42
  go_wp2
  go_ret
  exact ⟨rfl, rfl⟩
set_option maxHeartbeats 400000 in
theorem hp_eq (s : ByteArray) (h1 : 1 ≤ s.size) (h2 : s.size ≤ 9223372036854775807) (h : ((s.extract 0 1).toList == [48]) = true) (w : World) :
    Calls Tryz.prog 42 #[.string s, .string ⟨#[48]⟩] w fun e w' => e = .returned (.bool true) ∧ w = w' := by
  have hp1 : (⟨#[48]⟩ : ByteArray).size = 1 := rfl
  have hp2 : (⟨#[48]⟩ : ByteArray).toList = [48] := by decide +kernel
  go_enter Tryz.func42, Tryz.ntmps42
  go_wp2
  go_ret
  exact ⟨rfl, rfl⟩

theorem zeros_cut : ∀ k : Nat, k < 16 → (zeros 64).extract 0 k = zeros k := by decide +kernel

set_option maxHeartbeats 400000 in
theorem repeat_some (k : Nat) (hk2 : 2 ≤ k) (hk : k ≤ 15) (w : World) :
    Calls Tryz.prog 53 #[.string ⟨#[48]⟩, .int .i64 k] w fun e w' => e = .returned (.string (zeros k)) ∧ w = w' := by
  have hp1 : (⟨#[48]⟩ : ByteArray).size = 1 := rfl
  have q1 : ((⟨#[48]⟩ : ByteArray)[0].toNat : Int) = 48 := rfl
  go_enter Tryz.func53, Tryz.ntmps53
  go_wp2_with (first | (go_at_call 73; refine (mul_one (by omega) (by omega) _).mono ?_; rintro e w' ⟨rfl, rfl⟩) | (go_at_call 42; refine (hp_ne _ (by decide +kernel) (by decide +kernel) (by decide +kernel) _).mono ?_; rintro e w' ⟨rfl, rfl⟩) | (go_at_call 42; refine (hp_eq _ (by decide +kernel) (by decide +kernel) (by decide +kernel) _).mono ?_; rintro e w' ⟨rfl, rfl⟩))
  go_ret
  exact ⟨congrArg (fun s => Ending.returned (Value.string s)) (zeros_cut k (by omega)), rfl⟩

set_option maxRecDepth 100000 in
theorem repeat_zeros (k : Nat) (hk : k ≤ 15) (w : World) :
    Calls Tryz.prog 53 #[.string ⟨#[48]⟩, .int .i64 k] w fun e w' => e = .returned (.string (zeros k)) ∧ w = w' := by
  by_cases h2 : 2 ≤ k
  · exact repeat_some k h2 hk w
  · rcases (show k = 0 ∨ k = 1 by omega) with rfl | rfl
    · go_enter Tryz.func53, Tryz.ntmps53
      go_wp2
      go_ret
      exact ⟨rfl, rfl⟩
    · go_enter Tryz.func53, Tryz.ntmps53
      go_wp2
      go_ret
      exact ⟨rfl, rfl⟩

set_option maxHeartbeats 400000 in
theorem cutPrefix_no (s p : ByteArray) (_hs : s.size ≤ maxLen) (_hp : p.size ≤ maxLen) (h : p.size ≤ s.size → ((s.extract 0 p.size).toList == p.toList) = false) (w : World) :
    Calls Tryz.prog 66 #[.string s, .string p] w fun e w' => e = .returned (.tuple #[.string s, .bool false]) ∧ w = w' := by
  unfold maxLen at _hs _hp
  by_cases hl : p.size ≤ s.size
  · have h1 := h hl
    clear h
    go_enter Tryz.func66, Tryz.ntmps66
    go_wp2
    go_ret2
    exact ⟨rfl, rfl⟩
  · clear h
    go_enter Tryz.func66, Tryz.ntmps66
    go_wp2
    go_ret2
    exact ⟨rfl, rfl⟩
set_option maxHeartbeats 400000 in
theorem cutPrefix_yes (s p : ByteArray) (_hs : s.size ≤ maxLen) (_hp : p.size ≤ maxLen) (hl : p.size ≤ s.size) (h : ((s.extract 0 p.size).toList == p.toList) = true) (w : World) :
    Calls Tryz.prog 66 #[.string s, .string p] w fun e w' => e = .returned (.tuple #[.string (s.extract p.size s.size), .bool true]) ∧ w = w' := by
  unfold maxLen at _hs _hp
  go_enter Tryz.func66, Tryz.ntmps66
  go_wp2
  go_ret2
  exact ⟨rfl, rfl⟩

end Go.Proofs.YtadehoibjpmhhaaGreatDoor

/- Plain mathematics of numbers to the base 16: digits, their text, and the number of a text. No program in it. -/
namespace Go.Proofs.YtadehoibjpmhhaaGreatDoor
open Go.RowKit

theorem hid {p : Prop} (h : p) : Hid p := h
/-- A digit's byte. -/
def dg (d : Nat) : UInt8 := if d < 10 then UInt8.ofNat (48 + d) else UInt8.ofNat (87 + d)
/-- The last k digits of u, the highest first. -/
def fixW : Nat → Nat → List UInt8
  | 0, _ => []
  | k + 1, u => fixW k (u / 16) ++ [dg (u % 16)]

theorem fixW_len (k u : Nat) : (fixW k u).length = k := by
  induction k generalizing u with
  | zero => rfl
  | succ k ih => simp [fixW, ih]

theorem fixW_cons (k u : Nat) : fixW (k + 1) u = dg (u / 16 ^ k % 16) :: fixW k u := by
  induction k generalizing u with
  | zero => simp [fixW]
  | succ k ih =>
    rw [fixW, ih (u / 16), fixW]
    simp only [List.cons_append, List.cons.injEq, and_true]
    rw [Nat.div_div_eq_div_mul, Nat.pow_succ, Nat.mul_comm]

/-- How many digits u has, at most 16 of them looked for. -/
def hexLen : Nat → Nat → Nat
  | 0, _ => 1
  | k + 1, u => if u < 16 then 1 else hexLen k (u / 16) + 1

def hexText (u : Nat) : List UInt8 := fixW (hexLen 15 u) u

theorem hexLen_pos (k u : Nat) : 1 ≤ hexLen k u := by cases k <;> simp [hexLen]; split <;> omega
theorem hexLen_le (k u : Nat) : hexLen k u ≤ k + 1 := by
  induction k generalizing u with
  | zero => simp [hexLen]
  | succ k ih => simp only [hexLen]; have := ih (u / 16); split <;> omega

/-- Where a loop that takes digits from below ends: j digits taken, what is left is one digit: it's all. -/
theorem hexLen_of (k : Nat) : ∀ (u j : Nat), j ≤ k → u / 16 ^ j < 16 → (j = 0 ∨ 16 ≤ u / 16 ^ (j - 1)) → hexLen k u = j + 1 := by
  induction k with
  | zero =>
    intro u j hj _ _
    obtain rfl : j = 0 := Nat.le_zero.1 hj
    simp [hexLen]
  | succ k ih =>
    intro u j hj h1 h2
    simp only [hexLen]
    by_cases hj0 : j = 0
    · subst hj0
      rw [if_pos (by simpa using h1)]
    · obtain ⟨i, rfl⟩ : ∃ i, j = i + 1 := ⟨j - 1, by omega⟩
      have h3 : 16 ≤ u / 16 ^ i := by rcases h2 with h2 | h2; · omega
                                      · simpa using h2
      have h4 : 16 ≤ u := Nat.le_trans h3 (Nat.div_le_self _ _)
      rw [if_neg (by omega)]
      have e : ∀ m, u / 16 / 16 ^ m = u / 16 ^ (m + 1) := fun m => by rw [Nat.div_div_eq_div_mul, Nat.pow_succ, Nat.mul_comm]
      rw [ih (u / 16) i (by omega) (by rw [e]; exact h1)]
      by_cases hi : i = 0
      · exact Or.inl hi
      · refine Or.inr ?_
        rw [e, show i - 1 + 1 = i by omega]
        exact h3

/-- Noughts ahead. -/
theorem fixW_zero (k u : Nat) (h : u < 16 ^ k) : ∀ m, fixW (m + k) u = List.replicate m (48 : UInt8) ++ fixW k u := by
  intro m
  induction m with
  | zero => simp
  | succ m ih =>
    have hz : u / 16 ^ (m + k) = 0 := Nat.div_eq_of_lt (Nat.lt_of_lt_of_le h (Nat.pow_le_pow_right (by omega) (by omega)))
    rw [show m + 1 + k = (m + k) + 1 by omega, fixW_cons, hz, ih, List.replicate_succ]
    rfl

theorem hexLen_bound (k : Nat) : ∀ u, u < 16 ^ (k + 1) → u < 16 ^ hexLen k u := by
  induction k with
  | zero => intro u h; simpa [hexLen] using h
  | succ k ih =>
    intro u h
    simp only [hexLen]
    split
    · simpa using by assumption
    · rw [Nat.pow_succ]
      have h2 : u / 16 < 16 ^ (k + 1) := by rw [Nat.pow_succ] at h; omega
      have h1 := ih (u / 16) h2
      omega

theorem pad16 (u : Nat) (h : u < 18446744073709551616) : List.replicate (16 - (hexText u).length) (48 : UInt8) ++ hexText u = fixW 16 u := by
  unfold hexText
  rw [fixW_len]
  have h1 := hexLen_le 15 u
  have h2 := hexLen_bound 15 u h
  rw [← fixW_zero _ _ h2, show 16 - hexLen 15 u + hexLen 15 u = 16 by omega]

/-- The text that FormatUint's loop reads its digits from. -/
def digitsText : ByteArray := ⟨#[48, 49, 50, 51, 52, 53, 54, 55, 56, 57, 97, 98, 99, 100, 101, 102, 103, 104, 105, 106, 107, 108, 109, 110, 111, 112, 113, 114, 115, 116, 117, 118, 119, 120, 121, 122]⟩
theorem digitsText_dg : ∀ d : Nat, d < 16 → digitsText.data[d]? = some (dg d) := by decide +kernel

/-- What reading digits to the base 16 comes to: a number, a wrong byte, or too great a number. -/
inductive HexR where
  | ok (n : Nat)
  | syn
  | rng

/-- A byte that is no capital letter any more. -/
def lowN (c : Nat) : Nat := c ||| 32
def hexD (c : UInt8) : Option Nat :=
  if 48 ≤ c.toNat ∧ c.toNat ≤ 57 then some (c.toNat - 48) else if 97 ≤ lowN c.toNat ∧ lowN c.toNat ≤ 122 then some (lowN c.toNat - 87) else none
def hexGo : List UInt8 → Nat → HexR
  | [], n => .ok n
  | c :: cs, n => match hexD c with
    | none => .syn
    | some d => if 16 ≤ d then .syn else if 1152921504606846976 ≤ n then .rng else hexGo cs (n * 16 + d)

theorem lowN_le : ∀ c : Nat, c < 256 → c ≤ lowN c ∧ lowN c ≤ c + 32 ∧ lowN c < 256 := by decide +kernel
theorem lowN_95 : lowN 95 = 127 := by decide

theorem hexGo_drop (l : List UInt8) (k n : Nat) (h : k < l.length) : hexGo (l.drop k) n = (match hexD (l.getD k 0) with
    | none => .syn
    | some d => if 16 ≤ d then .syn else if 1152921504606846976 ≤ n then .rng else hexGo (l.drop (k + 1)) (n * 16 + d)) := by
  rw [List.drop_eq_getElem_cons h]
  simp only [hexGo, List.getD_eq_getElem?_getD, List.getElem?_eq_getElem h, Option.getD_some]

/-- Digits that are written are read. -/
theorem hexD_dg : ∀ d : Nat, d < 16 → hexD (dg d) = some d := by decide +kernel
theorem hexGo_app (a : List UInt8) (b : List UInt8) (n m : Nat) (h : hexGo a n = .ok m) : hexGo (a ++ b) n = hexGo b m := by
  induction a generalizing n with
  | nil => simp only [hexGo, HexR.ok.injEq] at h; subst h; rfl
  | cons c cs ih =>
    simp only [List.cons_append, hexGo] at h ⊢
    cases hc : hexD c with
    | none => rw [hc] at h; simp at h
    | some d =>
      rw [hc] at h
      simp only at h ⊢
      by_cases h1 : 16 ≤ d
      · rw [if_pos h1] at h; cases h
      · rw [if_neg h1] at h ⊢
        by_cases h2 : 1152921504606846976 ≤ n
        · rw [if_pos h2] at h; cases h
        · rw [if_neg h2] at h ⊢
          exact ih _ h
theorem hexGo_fix (k : Nat) : ∀ u, u < 16 ^ k → k ≤ 16 → hexGo (fixW k u) 0 = .ok u := by
  induction k with
  | zero => intro u h _; have : u = 0 := by simpa using h
            subst this; rfl
  | succ k ih =>
    intro u h hk
    have h2 : u / 16 < 16 ^ k := by rw [Nat.pow_succ] at h; omega
    have h3 : 16 ^ k ≤ 16 ^ 15 := Nat.pow_le_pow_right (by omega) (by omega)
    rw [fixW, hexGo_app _ _ _ _ (ih (u / 16) h2 (by omega))]
    simp only [hexGo, hexD_dg (u % 16) (by omega)]
    rw [if_neg (by omega), if_neg (by omega)]
    congr 1
    omega

end Go.Proofs.YtadehoibjpmhhaaGreatDoor

/- strconv.FormatUint to the base 16, for every uint64: its digits. Conditions: the table of math/bits reads as it is laid. -/
namespace Go.Proofs.YtadehoibjpmhhaaGreatDoor
open Go.RowKit

set_option maxHeartbeats 400000 in
theorem tz16 (w : World) (hc : w.cell? ⟨8, 15, none⟩ = some (.int .u8 4)) :
    Calls Tryz.prog 111 #[.int .u64 16] w fun e w' => e = .returned (.int .i64 4) ∧ w = w' := by
  have g1 : IntKind.u64.wrap (-16) = 18446744073709551600 := by rfl
  have g2 : bits .and .u64 16 18446744073709551600 = 16 := by rfl
  go_enter Tryz.func111, Tryz.ntmps111
  go_wp2
  go_ret
  exact ⟨rfl, rfl⟩

set_option maxHeartbeats 400000 in
theorem pow16 (w : World) : Calls Tryz.prog 110 #[.int .i64 16] w fun e w' => e = .returned (.bool true) ∧ w = w' := by
  have g2 : bits .and .i64 16 15 = 0 := by rfl
  go_enter Tryz.func110, Tryz.ntmps110
  go_wp2
  go_ret
  exact ⟨rfl, rfl⟩

/-- Block b holds these cells, and may be written. -/
def Blk (w : World) (b : Nat) (T : TypeId) (xs : Array Value) : Prop := w.heap[b]? = some (.cells xs T (0, 0))
theorem Blk.lt {w : World} {b : Nat} {T : TypeId} {xs : Array Value} (h : Blk w b T xs) : b < w.heap.size := by
  rcases Nat.lt_or_ge b w.heap.size with h' | h'
  · exact h'
  · unfold Blk at h; simp [Array.getElem?_eq_none h'] at h
theorem Blk.cell {w : World} {b : Nat} {T : TypeId} {xs : Array Value} (h : Blk w b T xs) (i : Nat) : w.cell? ⟨b, i, none⟩ = xs[i]? := by unfold Blk at h; simp [World.cell?, h]
theorem Blk.free {w : World} {b : Nat} {T : TypeId} {xs : Array Value} (h : Blk w b T xs) (i : Nat) : w.frozen? ⟨b, i, none⟩ = false := by unfold Blk at h; simp [World.frozen?, h]
theorem Blk.set {w : World} {b : Nat} {T : TypeId} {xs : Array Value} (h : Blk w b T xs) (i : Nat) (u : Value) : Blk (w.setCell ⟨b, i, none⟩ u) b T (xs.setIfInBounds i u) := by
  have hlt := h.lt
  unfold Blk at *
  have h' : w.heap[b] = .cells xs T (0, 0) := by simpa [Array.getElem?_eq_getElem hlt] using h
  show (w.heap.modify b _)[b]? = _
  rw [Array.getElem?_eq_getElem (by simpa using hlt), Array.getElem_modify_self, h']
  rfl
theorem Blk.new (w : World) (T : TypeId) (xs : Array Value) : Blk (w.alloc (.cells xs T)) w.heap.size T xs := by unfold Blk; exact heap_alloc_new w _
theorem Blk.keep {w w' : World} {b B : Nat} {T : TypeId} {xs : Array Value} (h : Blk w b T xs) (hb : Below B w w') (hB : b < B) : Blk w' b T xs := by unfold Blk at *; rw [hb.block b hB]; exact h

theorem cell_lt {w : World} {b i : Nat} {v : Value} (h : w.cell? ⟨b, i, none⟩ = some v) : b < w.heap.size := by
  rcases Nat.lt_or_ge b w.heap.size with h' | h'
  · exact h'
  · simp [World.cell?, Array.getElem?_eq_none h'] at h

/-- The cells of a byte text. -/
def bc (l : List UInt8) : List Value := l.map fun c => Value.int .u8 (c.toNat : Int)

/-- What the loop knows: j digits have been taken and lie at the row's end. -/
def FInv (u0 b : Nat) (w0 : World) (vu vi : Value) (wr : World) : Prop :=
  ∃ (j k x : Nat) (xs : Array Value), j + k = 64 ∧ j ≤ 15 ∧ x = u0 / 16 ^ j ∧ vu = .int .u64 (x : Nat) ∧ vi = .int .i64 (k + 1 : Nat) ∧ (j = 0 ∨ 16 ≤ u0 / 16 ^ (j - 1)) ∧
    Blk wr b 124 xs ∧ xs.size = 65 ∧ xs.toList.drop (k + 1) = bc (fixW j u0) ∧ Below b w0 wr

theorem and15 (x : Nat) (h : x < 18446744073709551616) : bits .and .u64 (x : Int) 15 = ((x % 16 : Nat) : Int) := by
  rw [u64_and _ _ (by omega) (by omega) (by omega) (by omega), Int.toNat_natCast, show (15 : Int).toNat = 15 from rfl, nat_mask4]

theorem dg_at (d : Nat) (h : d < 16) : (Value.int .u8 (((⟨#[48, 49, 50, 51, 52, 53, 54, 55, 56, 57, 97, 98, 99, 100, 101, 102, 103, 104, 105, 106, 107, 108, 109, 110, 111, 112, 113, 114, 115, 116, 117, 118, 119, 120, 121, 122]⟩ : ByteArray)[d]'(show d < 36 by omega)).toNat : Int)) = Value.int .u8 ((dg d).toNat : Int) := by
  have h1 := digitsText_dg d h
  have h2 : digitsText.data[d]? = some (digitsText.data[d]'(show d < 36 by omega)) := Array.getElem?_eq_getElem _
  rw [h2] at h1
  have h3 : digitsText.data[d]'(show d < 36 by omega) = dg d := Option.some.inj h1
  rw [← h3]
  rfl

theorem drop_set {xs : Array Value} {k j u : Nat} {c : UInt8} (hs : xs.size = 65) (hk : k ≤ 64) (hd : xs.toList.drop (k + 1) = bc (fixW j u)) (hf : fixW (j + 1) u = c :: fixW j u) :
    (xs.setIfInBounds k (Value.int .u8 (c.toNat : Int))).toList.drop k = bc (fixW (j + 1) u) := by
  rw [hf]
  unfold bc at *
  rw [List.map_cons, ← hd, Array.toList_setIfInBounds, List.drop_set, if_neg (by omega), Nat.sub_self]
  rw [List.drop_eq_getElem_cons (by simp; omega)]
  rfl

theorem add_zero_off (b o n : Nat) : (⟨b, o, none⟩ : Addr).add n = ⟨b, o + n, none⟩ := by
  unfold Addr.add
  split
  · subst_vars; rfl
  · rfl

theorem slice65 (W : World) (b : Nat) {k j : Nat} (h : j + k = 64) : (Instr.sliceAt 124 (.pointer (some ⟨b, 0, none⟩)) (some (.int .i64 (k : Int))) none none).run Tryz.prog W = .ok (.slice (some ⟨b, k, none⟩) (j + 1) (j + 1)) W := by
  have h1 : Tryz.prog.arrayLen 124 = 65 := by kernel_rfl
  have h2 : Tryz.prog.elem 124 = 5 := by kernel_rfl
  rw [run_sliceAt_array_l W 124 ⟨b, 0, none⟩ (by rw [h1, h2]; kernel_rfl) .i64 (k : Int) (by omega) (by rw [h1]; omega), h1, h2]
  have h3 : (sizeOf 5).run Tryz.prog W = .ok 1 W := by kernel_rfl
  rw [h3]
  simp only [Result.andThen, slicedAt, Int.toNat_natCast]
  rw [if_neg (by omega), show 65 - k = j + 1 by omega]
  rw [add_zero_off, Nat.mul_one, Nat.zero_add]

theorem cells_of_drop {W : World} {b k T : Nat} {xs : Array Value} {l : List UInt8} (hB : Blk W b T xs) (hd : xs.toList.drop k = bc l) :
    ∀ i (hi : i < l.length), W.cell? ((⟨b, k, none⟩ : Addr).add i) = some (.int .u8 (l[i].toNat : Int)) := by
  intro i hi
  have h1 : (xs.toList.drop k)[i]? = (bc l)[i]? := by rw [hd]
  rw [List.getElem?_drop, bc, List.getElem?_map, List.getElem?_eq_getElem hi, Array.getElem?_toList] at h1
  have h2 := hB.cell (k + i)
  rw [h1] at h2
  rw [add_zero_off]
  exact h2

set_option maxHeartbeats 1000000 in
set_option maxRecDepth 100000 in
theorem formatBits (u : Nat) (hu : u < 18446744073709551616) (w : World) (hc : w.cell? ⟨8, 15, none⟩ = some (.int .u8 4)) :
    Calls Tryz.prog 94 #[.slice none 0 0, .int .u64 u, .int .i64 16, .bool false, .bool false] w fun e w' => e = .returned (.tuple #[.slice none 0 0, .string ⟨(hexText u).toArray⟩]) ∧ Below w.heap.size w w' := by
  have h6 := cell_lt hc
  have hc1 : ∀ o, (w.alloc o).cell? ⟨8, 15, none⟩ = some (.int .u8 4) := fun o => by rw [← hc]; exact ((Below.refl w.heap.size w).alloc (Nat.le_refl _) o).cell h6
  have HU := hid hu
  clear hu
  go_enter Tryz.func94, Tryz.ntmps94
  go_wp2_with (first | (go_at_call 111; refine (tz16 _ (hc1 _)).mono ?_; rintro e w' ⟨rfl, rfl⟩) | (go_at_call 110; refine (pow16 _).mono ?_; rintro e w' ⟨rfl, rfl⟩))
  go_loopw [1, 13] (fun vu vi wr => FInv u w.heap.size w vu vi wr) (fun _ vi _ => (intOf vi).toNat)
  case atStart =>
    exact ⟨0, 64, u, Tryz.zeroCells124, by omega, by omega, by simp, rfl, rfl, Or.inl rfl, Blk.new _ _ _, rfl, rfl, (Below.refl _ _).alloc (Nat.le_refl _) _⟩
  case round =>
    obtain ⟨j, k, x, xs, hjk, hj, hx, rfl, rfl, hd, hB, hs, hdrop, hbel⟩ := hrel
    clear hc1 hc h6
    have hxl : x < 18446744073709551616 := by rw [hx]; exact Nat.lt_of_le_of_lt (Nat.div_le_self _ _) HU.out
    have hand := and15 x hxl
    have HX := hid hx
    have HB := hid hB
    have HS := hid hs
    have HD := hid hdrop
    have HJK := hid hjk
    have hk1 : k ≤ 64 := by omega
    have hk2 : 49 ≤ k := by omega
    obtain ⟨v0, hcell⟩ : ∃ v, wr.cell? ⟨w.heap.size, k, none⟩ = some v := ⟨xs[k]'(by omega), by rw [hB.cell, Array.getElem?_eq_getElem]⟩
    have hfree := hB.free k
    clear hx hB hs hdrop hjk
    by_cases h16 : 16 ≤ x
    · go_wp2
      go_roundw
      case rel =>
        refine ⟨j + 1, k - 1, x / 16, xs.setIfInBounds k (Value.int .u8 ((dg (x % 16)).toNat : Int)), by have := HJK.out; omega, ?_, ?_, ?_, ?_, ?_, ?_, ?_, ?_, hbel.setCell (Nat.le_refl _) _⟩
        · go_light
          have h1 := HX.out
          have h2 := HU.out
          rcases Nat.lt_or_ge j 15 with h | h
          · omega
          · obtain rfl : j = 15 := by omega
            exfalso
            omega
        · rw [HX.out, Nat.div_div_eq_div_mul, Nat.pow_succ]
        · go_num
        · rw [show k - 1 + 1 = k by omega]
        · exact Or.inr (by rw [Nat.add_sub_cancel, ← HX.out]; exact h16)
        · have e := dg_at (x % 16) (by omega)
          rw [e]
          exact HB.out.set k _
        · rw [Array.size_setIfInBounds]; exact HS.out
        · rw [show k - 1 + 1 = k by omega]
          exact drop_set HS.out hk1 HD.out (by rw [fixW_cons, ← HX.out])
      case measure => simp [intOf]
    · have h15 : x < 16 := by omega
      have hdg := dg_at x h15
      have hL := hexLen_of 15 u j hj (by rw [← HX.out]; exact h15) hd
      have hT : hexText u = fixW (j + 1) u := by unfold hexText; rw [hL]
      have hB1 := HB.out.set k (Value.int .u8 ((dg x).toNat : Int))
      have hD1 := drop_set HS.out hk1 HD.out (c := dg x) (by rw [fixW_cons, ← HX.out, Nat.mod_eq_of_lt h15])
      rw [← hT] at hD1
      have hlen : (hexText u).length = j + 1 := by rw [hT, fixW_len]
      have hsl : ∀ W, (Instr.sliceAt 124 (.pointer (some ⟨w.heap.size, 0, none⟩)) (some (.int .i64 (k : Int))) none none).run Tryz.prog W = .ok (.slice (some ⟨w.heap.size, k, none⟩) (hexText u).length (j + 1)) W := fun W => by
        rw [hlen]; exact slice65 W _ (by have := HJK.out; omega)
      have hcv : (convert 22 9 (.slice (some ⟨w.heap.size, k, none⟩) (hexText u).length (j + 1))).run Tryz.prog (wr.setCell ⟨w.heap.size, k, none⟩ (.int .u8 ((dg x).toNat : Int))) = .ok (.string ⟨(hexText u).toArray⟩) (wr.setCell ⟨w.heap.size, k, none⟩ (.int .u8 ((dg x).toNat : Int))) :=
        run_convert_bytes_back _ 22 9 5 _ _ _ Tryz.underlying22 Tryz.underlying5 Tryz.underlying9 (cells_of_drop hB1 hD1)
      clear hL hT hD1 hlen hd hB1
      go_wp2
      go_ret2
      exact ⟨rfl, hbel.setCell (Nat.le_refl _) _⟩

set_option maxHeartbeats 400000 in
theorem formatUintIn (u : Nat) (hu : u < 18446744073709551616) (w : World) (hc : w.cell? ⟨8, 15, none⟩ = some (.int .u8 4)) :
    Calls Tryz.prog 72 #[.int .u64 u, .int .i64 16] w fun e w' => e = .returned (.string ⟨(hexText u).toArray⟩) ∧ Below w.heap.size w w' := by
  go_enter Tryz.func72, Tryz.ntmps72
  go_wp2_with (go_at_call 94; refine (formatBits u hu _ (by assumption)).mono ?_; rintro e w' ⟨rfl, hb⟩)
  go_ret
  exact ⟨rfl, hb⟩

set_option maxHeartbeats 400000 in
/-- strconv.FormatUint(u, 16): u's digits, no noughts ahead. -/
theorem formatUint (u : Nat) (hu : u < 18446744073709551616) (w : World) (hc : w.cell? ⟨8, 15, none⟩ = some (.int .u8 4)) :
    Calls Tryz.prog 52 #[.int .u64 u, .int .i64 16] w fun e w' => e = .returned (.string ⟨(hexText u).toArray⟩) ∧ Below w.heap.size w w' := by
  go_enter Tryz.func52, Tryz.ntmps52
  go_wp2_with (go_at_call 72; refine (formatUintIn u hu _ (by assumption)).mono ?_; rintro e w' ⟨rfl, hb⟩)
  go_ret
  exact ⟨rfl, hb⟩

end Go.Proofs.YtadehoibjpmhhaaGreatDoor

/- What the library's variables hold when a law begins, in one word, and that it lasts while the call only makes memory of its own. -/
namespace Go.Proofs.YtadehoibjpmhhaaGreatDoor
open Go.RowKit

/-- The two error variables hold errors. -/
def ErrsIn (w : World) : Prop := (∃ t p, w.cell? ⟨4, 0, none⟩ = some (.iface t p)) ∧ (∃ t p, w.cell? ⟨5, 0, none⟩ = some (.iface t p))
theorem ErrsIn.below {w W : World} (h : ErrsIn w) (hW : Below w.heap.size w W) : ErrsIn W := by
  obtain ⟨⟨t, p, h1⟩, ⟨t', p', h2⟩⟩ := h
  exact ⟨⟨t, p, by rw [hW.cell (cell_lt h1)]; exact h1⟩, ⟨t', p', by rw [hW.cell (cell_lt h2)]; exact h2⟩⟩

theorem gpow10 : Tryz.prog.globalNamed "internal/strconv.uint64pow10" = some 6 := by kernel_rfl

/-- The library's variables hold what their initialisers lay. -/
structure LaidU (w : World) : Prop where
  utf : Lib.Utf8Tabs 0 1 w
structure LaidIn (w : World) : Prop extends LaidU w where
  tz : w.cell? ⟨8, 15, none⟩ = some (.int .u8 4)
  errs : ErrsIn w
  pow : Lib.TabIs Tryz.prog w "internal/strconv.uint64pow10" .u64 Lib.pow10Tab

instance {w : World} : CoeOut (LaidIn w) (LaidU w) := ⟨LaidIn.toLaidU⟩

theorem LaidU.below {w W : World} (h : LaidU w) (hW : Below w.heap.size w W) : LaidU W where
  utf := ⟨fun c hc => by have := h.utf.1 c hc; rw [hW.cell (cell_lt this)]; exact this,
    fun i hi => ⟨by have := (h.utf.2 i hi).1; rw [hW.cell (cell_lt this)]; exact this, by have := (h.utf.2 i hi).2; rw [hW.cell (cell_lt this)]; exact this⟩⟩
theorem LaidIn.below {w W : World} (h : LaidIn w) (hW : Below w.heap.size w W) : LaidIn W where
  toLaidU := h.toLaidU.below hW
  tz := by rw [hW.cell (cell_lt h.tz)]; exact h.tz
  errs := h.errs.below hW
  pow := Joins.tab_stays gpow10 h.pow hW (Nat.le_refl _)

end Go.Proofs.YtadehoibjpmhhaaGreatDoor

/- float.Show for every int: its text. Conditions: an int of 64 bits; the table of math/bits reads as it is laid. -/
namespace Go.Proofs.YtadehoibjpmhhaaGreatDoor
open Go.RowKit

def nanT : List UInt8 := [110, 97, 110]
def infT : List UInt8 := [105, 110, 102]
def minfT : List UInt8 := [45, 105, 110, 102]
def zeroT : List UInt8 := [48]
def mzeroT : List UInt8 := [45, 48]
/-- What the bits x, right ones, are shown as. -/
def textW (x : Nat) : List UInt8 :=
  if x = 9221120237041090560 then nanT else if x = 9218868437227405312 then infT else if x = 18442240474082181120 then minfT
  else if x = 0 then zeroT else if x = 9223372036854775808 then mzeroT else 120 :: fixW 16 x
def showT (n : Int) : List UInt8 := if rightB n = true then textW (wd n) else [63]

theorem repeat_int {i : Int} (h0 : 0 ≤ i) (h15 : i ≤ 15) (w : World) :
    Calls Tryz.prog 53 #[.string ⟨#[48]⟩, .int .i64 i] w fun e w' => e = .returned (.string (zeros i.toNat)) ∧ w = w' := by
  obtain ⟨k, rfl⟩ := toNat_ofNat h0
  exact repeat_zeros k (by omega) w

theorem u64_wd (n : Int) : IntKind.u64.wrap n = (wd n : Int) := by rw [IntKind.wrap_u64]; unfold wd; omega

set_option maxHeartbeats 1000000 in
theorem show_no {n : Int} (h : inI n) (hr : rightB n = false) (w : World) :
    Calls Tryz.prog 27 #[.int .i64 n] w fun e w' => e = .returned (.string ⟨#[63]⟩) ∧ w = w' := by
  go_enter Tryz.func27, Tryz.ntmps27
  go_wp2_with (go_at_call 30; refine (right_any h _).mono ?_; rintro e w' ⟨rfl, rfl⟩)
  go_ret
  exact ⟨rfl, rfl⟩

theorem glue (x : Nat) : (⟨#[120]⟩ : ByteArray) ++ zeros (16 - (hexText x).length) ++ ⟨(hexText x).toArray⟩ = ⟨(120 :: (List.replicate (16 - (hexText x).length) 48 ++ hexText x)).toArray⟩ := by
  apply ByteArray.ext
  simp only [ByteArray.data_append]
  unfold zeros
  simp

set_option maxHeartbeats 1000000 in
theorem show_hex {n : Int} (h : inI n) (hr : rightB n = true) (x : Nat) (hx : IntKind.u64.wrap n = (x : Int)) (hxl : x < 18446744073709551616)
    (q1 : ((x : Int) == 9221120237041090560) = false) (q2 : ((x : Int) == 9218868437227405312) = false) (q3 : ((x : Int) == 18442240474082181120) = false)
    (q4 : ((x : Int) == 0) = false) (q5 : ((x : Int) == 9223372036854775808) = false) (w : World) (hc : w.cell? ⟨8, 15, none⟩ = some (.int .u8 4)) :
    Calls Tryz.prog 27 #[.int .i64 n] w fun e w' => e = .returned (.string ⟨(120 :: fixW 16 x).toArray⟩) ∧ Below w.heap.size w w' := by
  have hl1 : 1 ≤ (hexText x).length := by unfold hexText; rw [fixW_len]; exact hexLen_pos _ _
  have hl2 : (hexText x).length ≤ 16 := by unfold hexText; rw [fixW_len]; exact hexLen_le _ _
  have hz : (zeros (16 - (hexText x).length)).size ≤ 16 := by unfold zeros; simp [ByteArray.size]
  go_enter Tryz.func27, Tryz.ntmps27
  go_wp2_with (first | (go_at_call 53; refine (repeat_int (by omega) (by omega) _).mono ?_; rintro e w' ⟨rfl, rfl⟩) | (go_at_call 30; refine (right_any h _).mono ?_; rintro e w' ⟨rfl, rfl⟩) | (go_at_call 52; refine (formatUint x hxl _ hc).mono ?_; rintro e w' ⟨rfl, hb⟩))
  go_ret
  refine ⟨congrArg (fun s => Ending.returned (Value.string s)) ?_, hb⟩
  rw [← pad16 x hxl]
  exact glue x

set_option maxHeartbeats 1000000 in
theorem show_nan {n : Int} (h : inI n) (hr : rightB n = true) (hx : IntKind.u64.wrap n = 9221120237041090560) (w : World) :
    Calls Tryz.prog 27 #[.int .i64 n] w fun e w' => e = .returned (.string ⟨nanT.toArray⟩) ∧ w = w' := by
  go_enter Tryz.func27, Tryz.ntmps27
  go_wp2_with (go_at_call 30; refine (right_any h _).mono ?_; rintro e w' ⟨rfl, rfl⟩)
  go_ret
  exact ⟨rfl, rfl⟩
set_option maxHeartbeats 1000000 in
theorem show_inf {n : Int} (h : inI n) (hr : rightB n = true) (hx : IntKind.u64.wrap n = 9218868437227405312) (w : World) :
    Calls Tryz.prog 27 #[.int .i64 n] w fun e w' => e = .returned (.string ⟨infT.toArray⟩) ∧ w = w' := by
  go_enter Tryz.func27, Tryz.ntmps27
  go_wp2_with (go_at_call 30; refine (right_any h _).mono ?_; rintro e w' ⟨rfl, rfl⟩)
  go_ret
  exact ⟨rfl, rfl⟩
set_option maxHeartbeats 1000000 in
theorem show_minf {n : Int} (h : inI n) (hr : rightB n = true) (hx : IntKind.u64.wrap n = 18442240474082181120) (w : World) :
    Calls Tryz.prog 27 #[.int .i64 n] w fun e w' => e = .returned (.string ⟨minfT.toArray⟩) ∧ w = w' := by
  go_enter Tryz.func27, Tryz.ntmps27
  go_wp2_with (go_at_call 30; refine (right_any h _).mono ?_; rintro e w' ⟨rfl, rfl⟩)
  go_ret
  exact ⟨rfl, rfl⟩
set_option maxHeartbeats 1000000 in
theorem show_zero {n : Int} (h : inI n) (hr : rightB n = true) (hx : IntKind.u64.wrap n = 0) (w : World) :
    Calls Tryz.prog 27 #[.int .i64 n] w fun e w' => e = .returned (.string ⟨zeroT.toArray⟩) ∧ w = w' := by
  go_enter Tryz.func27, Tryz.ntmps27
  go_wp2_with (go_at_call 30; refine (right_any h _).mono ?_; rintro e w' ⟨rfl, rfl⟩)
  go_ret
  exact ⟨rfl, rfl⟩
set_option maxHeartbeats 1000000 in
theorem show_mzero {n : Int} (h : inI n) (hr : rightB n = true) (hx : IntKind.u64.wrap n = 9223372036854775808) (w : World) :
    Calls Tryz.prog 27 #[.int .i64 n] w fun e w' => e = .returned (.string ⟨mzeroT.toArray⟩) ∧ w = w' := by
  go_enter Tryz.func27, Tryz.ntmps27
  go_wp2_with (go_at_call 30; refine (right_any h _).mono ?_; rintro e w' ⟨rfl, rfl⟩)
  go_ret
  exact ⟨rfl, rfl⟩

theorem eq_below {v : Value} {w : World} : ∀ {u : Value}, u = v → ∀ (e : Ending) (w' : World), e = .returned u ∧ w = w' → e = .returned v ∧ Below w.heap.size w w' := by
  rintro u rfl e w' ⟨rfl, rfl⟩
  exact ⟨rfl, Below.refl _ _⟩

/-- float.Show: the text of every int. -/
theorem show_any {n : Int} (h : inI n) (w : World) (hc : w.cell? ⟨8, 15, none⟩ = some (.int .u8 4)) :
    Calls Tryz.prog 27 #[.int .i64 n] w fun e w' => e = .returned (.string ⟨(showT n).toArray⟩) ∧ Below w.heap.size w w' := by
  have hx := u64_wd n
  have hxl := wd_lt n
  cases hr : rightB n
  · exact (show_no h hr w).mono (eq_below (by unfold showT; rw [if_neg (by rw [hr]; decide)]))
  · unfold showT textW
    rw [if_pos hr]
    by_cases h1 : wd n = 9221120237041090560
    · rw [if_pos h1]; exact (show_nan h hr (by rw [hx, h1]; rfl) w).mono (eq_below rfl)
    rw [if_neg h1]
    by_cases h2 : wd n = 9218868437227405312
    · rw [if_pos h2]; exact (show_inf h hr (by rw [hx, h2]; rfl) w).mono (eq_below rfl)
    rw [if_neg h2]
    by_cases h3 : wd n = 18442240474082181120
    · rw [if_pos h3]; exact (show_minf h hr (by rw [hx, h3]; rfl) w).mono (eq_below rfl)
    rw [if_neg h3]
    by_cases h4 : wd n = 0
    · rw [if_pos h4]; exact (show_zero h hr (by rw [hx, h4]; rfl) w).mono (eq_below rfl)
    rw [if_neg h4]
    by_cases h5 : wd n = 9223372036854775808
    · rw [if_pos h5]; exact (show_mzero h hr (by rw [hx, h5]; rfl) w).mono (eq_below rfl)
    rw [if_neg h5]
    have ne : ∀ {a : Nat}, ¬ wd n = a → ((wd n : Int) == (a : Int)) = false := fun g => by simpa using fun h => g (by omega)
    exact show_hex h hr (wd n) hx hxl (ne h1) (ne h2) (ne h3) (ne h4) (ne h5) w hc

end Go.Proofs.YtadehoibjpmhhaaGreatDoor

/- strconv.ParseUint to the base 16 and of 64 bits, for every text that isn't empty. -/
namespace Go.Proofs.YtadehoibjpmhhaaGreatDoor
open Go.RowKit

set_option maxHeartbeats 400000 in
theorem lower_any (c : Nat) (h : c < 256) (w : World) :
    Calls Tryz.prog 103 #[.int .u8 c] w fun e w' => e = .returned (.int .u8 (lowN c : Nat)) ∧ w = w' := by
  have hb : bits .or .u8 (c : Int) 32 = (lowN c : Nat) := u8_or_nat c 32 h (by omega)
  go_enter Tryz.func103, Tryz.ntmps103
  go_wp2
  go_ret
  exact ⟨rfl, rfl⟩

theorem conv_bytes (s : ByteArray) (w : World) : ∃ cap W1, (convert 9 22 (.string s)).run Tryz.prog w = .ok (.slice (some ⟨w.heap.size, 0, none⟩) s.size cap) W1 ∧
    (∀ j, j < s.size → W1.cell? ⟨w.heap.size, j, none⟩ = some (.int .u8 ((s.data.toList.getD j 0).toNat : Int))) ∧ Below w.heap.size w W1 :=
  ⟨_, _, Lib.run_convert_string_bytes w 9 22 5 s Tryz.underlying9 Tryz.underlying22 Tryz.underlying5, fun j hj => Lib.bytesWorld_cell w 5 s j hj, Lib.bytesWorld_below w 5 s⟩

def hexEnd : HexR → Ending
  | .ok n => .returned (.tuple #[.int .u64 n, .nilIface])
  | .syn => .returned (.tuple #[.int .u64 0, .iface 102 (.int .i64 2)])
  | .rng => .returned (.tuple #[.int .u64 18446744073709551615, .iface 102 (.int .i64 1)])

def PInv (s : ByteArray) (R : HexR) (vu vn vi : Value) : Prop :=
  ∃ (k : Nat) (acc : Int), k ≤ s.size ∧ 0 ≤ acc ∧ acc < 18446744073709551616 ∧ vu = .bool false ∧ vn = .int .u64 acc ∧ vi = .int .i64 k ∧ hexGo (s.data.toList.drop k) acc.toNat = R

set_option maxHeartbeats 1000000 in
set_option maxRecDepth 100000 in
theorem parseIn (s : ByteArray) (hs : s.size ≤ 9223372036854775807) (hne : s.toList.isEmpty = false) (w : World) :
    Calls Tryz.prog 86 #[.string s, .int .i64 16, .int .i64 64] w fun e w' => e = hexEnd (hexGo s.data.toList 0) ∧ Below w.heap.size w w' := by
  obtain ⟨cap, W1, hcv, hcells, hbel⟩ := conv_bytes s w
  have HC := hid hcells
  clear hcells
  have hmx : IntKind.u64.wrap (IntKind.u64.wrap 18446744073709551616 - 1) = 18446744073709551615 := by rfl
  obtain ⟨R, hR⟩ : ∃ R, hexGo s.data.toList 0 = R := ⟨_, rfl⟩
  rw [hR]
  have HR := hid hR
  clear hR
  go_enter Tryz.func86, Tryz.ntmps86
  go_wp2_with fail
  go_loop [12, 13, 101] (fun vu vn vi => PInv s R vu vn vi) (fun _ _ vi => s.size - (intOf vi).toNat)
  case atStart => exact ⟨0, 0, by omega, by omega, by omega, rfl, rfl, rfl, HR.out⟩
  case round =>
    obtain ⟨k, acc, hk, hacc0, hacc, rfl, rfl, rfl, hgo⟩ := hrel
    by_cases hlt : k < s.size
    · have hstep := hexGo_drop s.data.toList k acc.toNat (by simpa using hlt)
      have hcell := HC.out k hlt
      rw [hgo] at hstep
      clear hgo hcv hmx
      have HS := hid hstep
      clear hstep
      obtain ⟨c, hc⟩ : ∃ c, s.data.toList.getD k 0 = c := ⟨_, rfl⟩
      rw [hc] at hcell
      have HS2 : Hid (R = (match hexD c with
        | none => .syn
        | some d => if 16 ≤ d then .syn else if 1152921504606846976 ≤ acc.toNat then .rng else hexGo (s.data.toList.drop (k + 1)) (acc.toNat * 16 + d))) := by rw [← hc]; exact HS.out
      clear HS hc
      have h256 : c.toNat < 256 := c.toNat_lt
      obtain ⟨l1, l2, l3⟩ := lowN_le c.toNat h256
      by_cases hd : 48 ≤ c.toNat ∧ c.toNat ≤ 57
      · obtain ⟨d1, d2⟩ := hd
        have HD : Hid (hexD c = some (c.toNat - 48)) := by unfold hexD; rw [if_pos ⟨d1, d2⟩]; exact rfl
        by_cases ha : 1152921504606846976 ≤ acc
        · have HRE : Hid (R = .rng) := by have := HS2.out; rw [HD.out] at this; simp only at this; rw [if_neg (by omega), if_pos (by omega)] at this; exact this
          go_wp2_with (go_at_call 103; refine (lower_any _ h256 _).mono ?_; rintro e w' ⟨rfl, rfl⟩)
          go_ret2
          rw [HRE.out]
          exact ⟨rfl, hbel⟩
        · have HRE : Hid (hexGo (s.data.toList.drop (k + 1)) (acc.toNat * 16 + (c.toNat - 48)) = R) := by have := HS2.out; rw [HD.out] at this; simp only at this; rw [if_neg (by omega), if_neg (by omega)] at this; exact this.symm
          go_wp2_with (go_at_call 103; refine (lower_any _ h256 _).mono ?_; rintro e w' ⟨rfl, rfl⟩)
          go_round
          case rel => exact ⟨k + 1, acc * 16 + (c.toNat - 48), by omega, by omega, by omega, rfl, rfl, by go_num, by rw [← HRE.out]; congr 1; omega⟩
          case measure => simp [intOf]; omega
      · have h95 : lowN c.toNat ≤ 122 → ¬ c.toNat = 95 := by intro g e; rw [e, lowN_95] at g; omega
        by_cases hl : 97 ≤ lowN c.toNat ∧ lowN c.toNat ≤ 122
        · obtain ⟨g1, g2⟩ := hl
          have h95' := h95 g2
          have HD : Hid (hexD c = some (lowN c.toNat - 87)) := by unfold hexD; rw [if_neg hd, if_pos ⟨g1, g2⟩]; exact rfl
          clear h95
          obtain ⟨lo, hlo⟩ : ∃ lo, lowN c.toNat = lo := ⟨_, rfl⟩
          have HL : Hid (∀ W, Calls Tryz.prog 103 #[.int .u8 c.toNat] W fun e w' => e = .returned (.int .u8 lo) ∧ W = w') := fun W => by rw [← hlo]; exact lower_any _ h256 W
          rw [hlo] at l1 l2 l3 g1 g2 HD
          clear hlo
          by_cases h16 : 103 ≤ lo
          · have HRE : Hid (R = .syn) := by have := HS2.out; rw [HD.out] at this; simp only at this; rw [if_pos (by omega)] at this; exact this
            by_cases d1 : 48 ≤ c.toNat
            · have d2 : ¬ c.toNat ≤ 57 := fun d2 => hd ⟨d1, d2⟩
              clear hd
              go_wp2_with (go_at_call 103; refine (HL.out _).mono ?_; rintro e w' ⟨rfl, rfl⟩)
              go_ret2
              rw [HRE.out]
              exact ⟨rfl, hbel⟩
            · exfalso; omega
          · by_cases ha : 1152921504606846976 ≤ acc
            · have HRE : Hid (R = .rng) := by have := HS2.out; rw [HD.out] at this; simp only at this; rw [if_neg (by omega), if_pos (by omega)] at this; exact this
              by_cases d1 : 48 ≤ c.toNat
              · have d2 : ¬ c.toNat ≤ 57 := fun d2 => hd ⟨d1, d2⟩
                clear hd
                go_wp2_with (go_at_call 103; refine (HL.out _).mono ?_; rintro e w' ⟨rfl, rfl⟩)
                go_ret2
                rw [HRE.out]
                exact ⟨rfl, hbel⟩
              · exfalso; omega
            · have HRE : Hid (hexGo (s.data.toList.drop (k + 1)) (acc.toNat * 16 + (lo - 87)) = R) := by have := HS2.out; rw [HD.out] at this; simp only at this; rw [if_neg (by omega), if_neg (by omega)] at this; exact this.symm
              by_cases d1 : 48 ≤ c.toNat
              · have d2 : ¬ c.toNat ≤ 57 := fun d2 => hd ⟨d1, d2⟩
                clear hd
                go_wp2_with (go_at_call 103; refine (HL.out _).mono ?_; rintro e w' ⟨rfl, rfl⟩)
                go_round
                case rel => exact ⟨k + 1, acc * 16 + (lo - 97 + 10), by omega, by omega, by omega, rfl, rfl, by go_num, by rw [← HRE.out]; congr 1; omega⟩
                case measure => simp [intOf]; omega
              · exfalso; omega
        · have HRE : Hid (R = .syn) := by have := HS2.out; unfold hexD at this; rw [if_neg hd, if_neg hl] at this; exact this
          clear h95
          obtain ⟨lo, hlo⟩ : ∃ lo, lowN c.toNat = lo := ⟨_, rfl⟩
          have HL : Hid (∀ W, Calls Tryz.prog 103 #[.int .u8 c.toNat] W fun e w' => e = .returned (.int .u8 lo) ∧ W = w') := fun W => by rw [← hlo]; exact lower_any _ h256 W
          rw [hlo] at l1 l2 l3 hl
          clear hlo
          have hd1 : 48 ≤ c.toNat → ¬ c.toNat ≤ 57 := fun a b => hd ⟨a, b⟩
          have hl1 : 97 ≤ lo → ¬ lo ≤ 122 := fun a b => hl ⟨a, b⟩
          clear hd hl
          by_cases d1 : 48 ≤ c.toNat
          · have d2 := hd1 d1
            clear hd1
            by_cases e95 : c.toNat = 95
            · have hcell' : W1.cell? ⟨w.heap.size, k, none⟩ = some (.int .u8 95) := by rw [hcell, e95]; rfl
              have HL9 : Hid (∀ W, Calls Tryz.prog 103 #[.int .u8 95] W fun e w' => e = .returned (.int .u8 127) ∧ W = w') := fun W => by have := lower_any 95 (by omega) W; rw [lowN_95] at this; exact this
              clear hcell HL l1 l2 l3 hl1 e95 HS2 d1 d2
              go_wp2_with (go_at_call 103; refine (HL9.out _).mono ?_; rintro e w' ⟨rfl, rfl⟩)
              all_goals go_ret2
              all_goals rw [HRE.out]
              all_goals exact ⟨rfl, hbel⟩
            · have f95 : ((c.toNat : Int) == 95) = false := by simpa using fun h => e95 (by omega)
              clear e95
              by_cases g1 : 97 ≤ lo
              · have g2 := hl1 g1
                clear hl1
                go_wp2_with (go_at_call 103; refine (HL.out _).mono ?_; rintro e w' ⟨rfl, rfl⟩)
                all_goals go_ret2
                all_goals rw [HRE.out]
                all_goals exact ⟨rfl, hbel⟩
              · clear hl1
                go_wp2_with (go_at_call 103; refine (HL.out _).mono ?_; rintro e w' ⟨rfl, rfl⟩)
                all_goals go_ret2
                all_goals rw [HRE.out]
                all_goals exact ⟨rfl, hbel⟩
          · clear hd1
            by_cases g1 : 97 ≤ lo
            · have g2 := hl1 g1
              clear hl1
              go_wp2_with (go_at_call 103; refine (HL.out _).mono ?_; rintro e w' ⟨rfl, rfl⟩)
              all_goals go_ret2
              all_goals rw [HRE.out]
              all_goals exact ⟨rfl, hbel⟩
            · clear hl1
              go_wp2_with (go_at_call 103; refine (HL.out _).mono ?_; rintro e w' ⟨rfl, rfl⟩)
              all_goals go_ret2
              all_goals rw [HRE.out]
              all_goals exact ⟨rfl, hbel⟩
    · have HRE : Hid (R = .ok acc.toNat) := by rw [← hgo, List.drop_of_length_le (by simp; omega)]; rfl
      clear hgo hcv hmx
      go_wp2
      go_ret2
      rw [HRE.out]
      refine ⟨?_, hbel⟩
      have e1 : (acc.toNat : Int) = acc := Int.toNat_of_nonneg hacc0
      show _ = Ending.returned (.tuple #[.int .u64 (acc.toNat : Int), .nilIface])
      rw [e1]
      exact rfl

end Go.Proofs.YtadehoibjpmhhaaGreatDoor

/- float.parse and float.Read at each text that Show tells of a right number: that number, and true. Conditions: the table of math/bits reads as it is laid. -/
namespace Go.Proofs.YtadehoibjpmhhaaGreatDoor
open Go.RowKit

set_option maxHeartbeats 400000 in
theorem parseUint_ok (s : ByteArray) (hs : s.size ≤ 9223372036854775807) (hne : s.toList.isEmpty = false) (n : Nat) (hn : hexGo s.data.toList 0 = .ok n) (w : World) :
    Calls Tryz.prog 82 #[.string s, .int .i64 16, .int .i64 64] w fun e w' => e = .returned (.tuple #[.int .u64 n, .nilIface]) ∧ Below w.heap.size w w' := by
  have hp := parseIn s hs hne w
  rw [hn] at hp
  have HP : Hid (Calls Tryz.prog 86 #[.string s, .int .i64 16, .int .i64 64] w fun e w' => e = .returned (.tuple #[.int .u64 n, .nilIface]) ∧ Below w.heap.size w w') := hp
  clear hp hn hne hs
  go_enter Tryz.func82, Tryz.ntmps82
  go_wp2_with (go_at_call 86; refine HP.out.mono ?_; rintro e w' ⟨rfl, hb⟩)
  go_ret2
  exact ⟨rfl, hb⟩

theorem mk_toList (l : List UInt8) : (⟨l.toArray⟩ : ByteArray).toList = l := by rw [ByteArray.toList_eq]

/-- The texts with names. -/
def named : List (List UInt8) := [nanT, infT, minfT, zeroT, mzeroT]

set_option maxHeartbeats 1000000 in
theorem parse_hex (l : List UInt8) (hl : l.length ≤ 1000) (h0 : l ≠ []) (n : Nat) (hn : hexGo l 0 = .ok n) (w : World) :
    Calls Tryz.prog 65 #[.string ⟨(120 :: l).toArray⟩] w fun e w' => e = .returned (.tuple #[.int .u64 n, .bool true]) ∧ Below w.heap.size w w' := by
  have ht : (⟨(120 :: l).toArray⟩ : ByteArray).toList = 120 :: l := mk_toList _
  obtain ⟨s, hs⟩ : ∃ s : ByteArray, (⟨(120 :: l).toArray⟩ : ByteArray) = s := ⟨_, rfl⟩
  rw [hs] at ht ⊢
  have hsz : s.size = l.length + 1 := by rw [← hs]; simp [ByteArray.size]
  have hd : (s.extract 1 s.size).data.toList = l := by
    rw [Lib.extract_data, ← hs]; simp [ByteArray.size]
  have hp1 : (⟨#[120]⟩ : ByteArray).size = 1 := rfl
  have hp2 : (⟨#[120]⟩ : ByteArray).toList = [120] := by decide +kernel
  have HCut : Hid (Calls Tryz.prog 66 #[.string s, .string ⟨#[120]⟩] w fun e w' => e = .returned (.tuple #[.string (s.extract 1 s.size), .bool true]) ∧ w = w') := by
    have := cutPrefix_yes s ⟨#[120]⟩ (by unfold maxLen; omega) (by decide) (by rw [hp1]; omega) (by rw [hp2, hp1, ByteArray.toList_eq, Lib.extract_data, ← ByteArray.toList_eq, ht]; rfl) w
    rwa [hp1] at this
  have HP : Hid (Calls Tryz.prog 82 #[.string (s.extract 1 s.size), .int .i64 16, .int .i64 64] w fun e w' => e = .returned (.tuple #[.int .u64 n, .nilIface]) ∧ Below w.heap.size w w') := by
    refine parseUint_ok _ ?_ ?_ n (by rw [hd]; exact hn) w
    · rw [Lib.size_eq, hd]; omega
    · rw [ByteArray.toList_eq, hd]; cases l with
      | nil => exact absurd rfl h0
      | cons a b => rfl
  have n1 : (s.toList == [110, 97, 110]) = false := by rw [ht]; rfl
  have n2 : (s.toList == [105, 110, 102]) = false := by rw [ht]; rfl
  have n3 : (s.toList == [45, 105, 110, 102]) = false := by rw [ht]; rfl
  have n4 : (s.toList == [48]) = false := by rw [ht]; rfl
  have n5 : (s.toList == [45, 48]) = false := by rw [ht]; rfl
  clear ht hs hsz hd hp1 hp2 hn h0 hl
  go_enter Tryz.func65, Tryz.ntmps65
  go_wp2_with (first | (go_at_call 66; refine HCut.out.mono ?_; rintro e w' ⟨rfl, rfl⟩) | (go_at_call 82; refine HP.out.mono ?_; rintro e w' ⟨rfl, hb⟩))
  go_quiet (fail)
  go_wp2
  go_ret2
  exact ⟨rfl, below_drewN hb _⟩

set_option maxHeartbeats 1000000 in
theorem parse_nan (w : World) : Calls Tryz.prog 65 #[.string ⟨nanT.toArray⟩] w fun e w' => e = .returned (.tuple #[.int .u64 9221120237041090560, .bool true]) ∧ w = w' := by
  have n1 : ((⟨nanT.toArray⟩ : ByteArray).toList == [110, 97, 110]) = true := by rw [mk_toList]; rfl
  go_enter Tryz.func65, Tryz.ntmps65
  go_wp2
  go_ret2
  exact ⟨rfl, rfl⟩
set_option maxHeartbeats 1000000 in
theorem parse_inf (w : World) : Calls Tryz.prog 65 #[.string ⟨infT.toArray⟩] w fun e w' => e = .returned (.tuple #[.int .u64 9218868437227405312, .bool true]) ∧ w = w' := by
  have n1 : ((⟨infT.toArray⟩ : ByteArray).toList == [110, 97, 110]) = false := by rw [mk_toList]; rfl
  have n2 : ((⟨infT.toArray⟩ : ByteArray).toList == [105, 110, 102]) = true := by rw [mk_toList]; rfl
  go_enter Tryz.func65, Tryz.ntmps65
  go_wp2
  go_ret2
  exact ⟨rfl, rfl⟩
set_option maxHeartbeats 1000000 in
theorem parse_minf (w : World) : Calls Tryz.prog 65 #[.string ⟨minfT.toArray⟩] w fun e w' => e = .returned (.tuple #[.int .u64 18442240474082181120, .bool true]) ∧ w = w' := by
  have n1 : ((⟨minfT.toArray⟩ : ByteArray).toList == [110, 97, 110]) = false := by rw [mk_toList]; rfl
  have n2 : ((⟨minfT.toArray⟩ : ByteArray).toList == [105, 110, 102]) = false := by rw [mk_toList]; rfl
  have n3 : ((⟨minfT.toArray⟩ : ByteArray).toList == [45, 105, 110, 102]) = true := by rw [mk_toList]; rfl
  go_enter Tryz.func65, Tryz.ntmps65
  go_wp2
  go_ret2
  exact ⟨rfl, rfl⟩
set_option maxHeartbeats 1000000 in
theorem parse_zero (w : World) : Calls Tryz.prog 65 #[.string ⟨zeroT.toArray⟩] w fun e w' => e = .returned (.tuple #[.int .u64 0, .bool true]) ∧ w = w' := by
  have n1 : ((⟨zeroT.toArray⟩ : ByteArray).toList == [110, 97, 110]) = false := by rw [mk_toList]; rfl
  have n2 : ((⟨zeroT.toArray⟩ : ByteArray).toList == [105, 110, 102]) = false := by rw [mk_toList]; rfl
  have n3 : ((⟨zeroT.toArray⟩ : ByteArray).toList == [45, 105, 110, 102]) = false := by rw [mk_toList]; rfl
  have n4 : ((⟨zeroT.toArray⟩ : ByteArray).toList == [48]) = true := by rw [mk_toList]; rfl
  go_enter Tryz.func65, Tryz.ntmps65
  go_wp2
  go_ret2
  exact ⟨rfl, rfl⟩
set_option maxHeartbeats 1000000 in
theorem parse_mzero (w : World) : Calls Tryz.prog 65 #[.string ⟨mzeroT.toArray⟩] w fun e w' => e = .returned (.tuple #[.int .u64 9223372036854775808, .bool true]) ∧ w = w' := by
  have n1 : ((⟨mzeroT.toArray⟩ : ByteArray).toList == [110, 97, 110]) = false := by rw [mk_toList]; rfl
  have n2 : ((⟨mzeroT.toArray⟩ : ByteArray).toList == [105, 110, 102]) = false := by rw [mk_toList]; rfl
  have n3 : ((⟨mzeroT.toArray⟩ : ByteArray).toList == [45, 105, 110, 102]) = false := by rw [mk_toList]; rfl
  have n4 : ((⟨mzeroT.toArray⟩ : ByteArray).toList == [48]) = false := by rw [mk_toList]; rfl
  have n5 : ((⟨mzeroT.toArray⟩ : ByteArray).toList == [45, 48]) = true := by rw [mk_toList]; rfl
  go_enter Tryz.func65, Tryz.ntmps65
  go_wp2
  go_ret2
  exact ⟨rfl, rfl⟩

/-- parse at the text of a word. -/
theorem parse_text (x : Nat) (hx : x < 18446744073709551616) (w : World) :
    Calls Tryz.prog 65 #[.string ⟨(textW x).toArray⟩] w fun e w' => e = .returned (.tuple #[.int .u64 x, .bool true]) ∧ Below w.heap.size w w' := by
  unfold textW
  by_cases h1 : x = 9221120237041090560
  · rw [if_pos h1, h1]; exact (parse_nan w).mono (eq_below rfl)
  rw [if_neg h1]
  by_cases h2 : x = 9218868437227405312
  · rw [if_pos h2, h2]; exact (parse_inf w).mono (eq_below rfl)
  rw [if_neg h2]
  by_cases h3 : x = 18442240474082181120
  · rw [if_pos h3, h3]; exact (parse_minf w).mono (eq_below rfl)
  rw [if_neg h3]
  by_cases h4 : x = 0
  · rw [if_pos h4, h4]; exact (parse_zero w).mono (eq_below rfl)
  rw [if_neg h4]
  by_cases h5 : x = 9223372036854775808
  · rw [if_pos h5, h5]; exact (parse_mzero w).mono (eq_below rfl)
  rw [if_neg h5]
  refine parse_hex (fixW 16 x) (by rw [fixW_len]; omega) ?_ x (hexGo_fix 16 x hx (Nat.le_refl _)) w
  intro h
  have := congrArg List.length h
  rw [fixW_len] at this
  exact absurd this (by decide)

set_option maxHeartbeats 1000000 in
/-- float.Read at what Show tells of a right number. -/
theorem read_text {n : Int} (h : inI n) (hr : rightB n = true) (w : World) (hc : w.cell? ⟨8, 15, none⟩ = some (.int .u8 4)) :
    Calls Tryz.prog 43 #[.string ⟨(textW (wd n)).toArray⟩] w fun e w' => e = .returned (.tuple #[.int .i64 n, .bool true]) ∧ Below w.heap.size w w' := by
  have h6 := cell_lt hc
  have HP := hid (parse_text (wd n) (wd_lt n) w)
  have HS : Hid (∀ W, Below w.heap.size w W → Calls Tryz.prog 27 #[.int .i64 n] W fun e w' => e = .returned (.string ⟨(textW (wd n)).toArray⟩) ∧ Below W.heap.size W w') := fun W hW => by
    have := show_any h W (by rw [hW.cell h6]; exact hc)
    unfold showT at this
    rwa [if_pos hr] at this
  have hw : wrap64 (wd n : Int) = n := wrap64_wd h
  obtain ⟨s, hs⟩ : ∃ s : ByteArray, (⟨(textW (wd n)).toArray⟩ : ByteArray) = s := ⟨_, rfl⟩
  rw [hs] at HP HS ⊢
  clear hs hr h hc h6
  go_enter Tryz.func43, Tryz.ntmps43
  go_wp2_with (first | (go_at_call 65; refine HP.out.mono ?_; rintro e w' ⟨rfl, hb⟩) | (go_at_call 27; refine (HS.out _ (by assumption)).mono ?_; rintro e w' ⟨rfl, hb2⟩))
  go_ret2
  exact ⟨congrArg (fun k => Ending.returned (Value.tuple #[Value.int .i64 k, .bool true])) hw, hb.trans (hb2.mono hb.size)⟩

end Go.Proofs.YtadehoibjpmhhaaGreatDoor

/- float.Bytes for every int: nothing for one that isn't right, else new memory with the eight bytes of its rank, the highest first. Conditions: an int of 64 bits. -/
namespace Go.Proofs.YtadehoibjpmhhaaGreatDoor
open Go.RowKit

/-- The last k bytes of r, the highest first. -/
def byW : Nat → Nat → List UInt8
  | 0, _ => []
  | k + 1, r => byW k (r / 256) ++ [UInt8.ofNat (r % 256)]
theorem byW_len (k r : Nat) : (byW k r).length = k := by
  induction k generalizing r with
  | zero => rfl
  | succ k ih => simp [byW, ih]
theorem byW_cons (k r : Nat) : byW (k + 1) r = UInt8.ofNat (r / 256 ^ k % 256) :: byW k r := by
  induction k generalizing r with
  | zero => simp [byW]
  | succ k ih =>
    rw [byW, ih (r / 256), byW]
    simp only [List.cons_append, List.cons.injEq, and_true]
    rw [Nat.div_div_eq_div_mul, Nat.pow_succ, Nat.mul_comm]

set_option maxHeartbeats 400000 in
theorem bytes_no {n : Int} (h : inI n) (hr : rightB n = false) (w : World) :
    Calls Tryz.prog 23 #[.int .i64 n] w fun e w' => e = .returned (.slice none 0 0) ∧ w = w' := by
  go_enter Tryz.func23, Tryz.ntmps23
  go_wp2_with (go_at_call 30; refine (right_any h _).mono ?_; rintro e w' ⟨rfl, rfl⟩)
  go_ret
  exact ⟨rfl, rfl⟩

theorem byte_at (r i : Nat) : ((r : Int) / 2 ^ (8 * i) % 256) = ((UInt8.ofNat (r / 256 ^ i % 256)).toNat : Int) := by
  have e : (2 : Nat) ^ (8 * i) = 256 ^ i := by rw [Nat.pow_mul]
  have e2 : ((2 : Int) ^ (8 * i)) = ((256 ^ i : Nat) : Int) := by rw [← e, Int.natCast_pow]; rfl
  rw [e2, UInt8.toNat_ofNat']
  have : r / 256 ^ i % 256 % 2 ^ 8 = r / 256 ^ i % 256 := Nat.mod_eq_of_lt (by omega)
  rw [this, Int.natCast_emod, Int.natCast_ediv]
  rfl
theorem drop_set8 {xs : Array Value} {k j r : Nat} (hs : xs.size = 8) (hk : k ≤ 7) (hd : xs.toList.drop (k + 1) = bc (byW j r)) :
    (xs.setIfInBounds k (Value.int .u8 ((UInt8.ofNat (r / 256 ^ j % 256)).toNat : Int))).toList.drop k = bc (byW (j + 1) r) := by
  rw [byW_cons]
  unfold bc at *
  rw [List.map_cons, ← hd, Array.toList_setIfInBounds, List.drop_set, if_neg (by omega), Nat.sub_self]
  rw [List.drop_eq_getElem_cons (by simp; omega)]
  rfl

/-- What the loop knows: i bytes have been laid. -/
def BInv (r b : Nat) (w0 : World) (vi : Value) (wr : World) : Prop :=
  ∃ (i : Nat) (xs : Array Value), i ≤ 8 ∧ vi = .int .i64 i ∧ Blk wr b 5 xs ∧ xs.size = 8 ∧ xs.toList.drop (8 - i) = bc (byW i r) ∧ Below b w0 wr

set_option maxHeartbeats 1000000 in
theorem bytes_yes {n : Int} (h : inI n) (hr : rightB n = true) (w : World) :
    Calls Tryz.prog 23 #[.int .i64 n] w fun e w' => e = .returned (.slice (some ⟨w.heap.size, 0, none⟩) 8 8) ∧ Blk w' w.heap.size 5 (bc (byW 8 (rankI n).toNat)).toArray ∧ Below w.heap.size w w' := by
  have hmk : ∀ W, (Instr.makeSlice 22 (.int .i64 8) (.int .i64 8)).run Tryz.prog W = .ok (.slice (some ⟨W.heap.size, 0, none⟩) 8 8) (W.alloc (.cells #[.int .u8 0, .int .u8 0, .int .u8 0, .int .u8 0, .int .u8 0, .int .u8 0, .int .u8 0, .int .u8 0] 5)) := fun _ => by kernel_rfl
  obtain ⟨r0, r1⟩ := rank_in h
  have HRk : Hid (∀ W, Calls Tryz.prog 49 #[.int .i64 n] W fun e w' => e = .returned (.int .u64 (rankI n)) ∧ W = w') := fun W => rank_any h W
  have HRt : Hid (∀ W, Calls Tryz.prog 30 #[.int .i64 n] W fun e w' => e = .returned (.bool (rightB n)) ∧ W = w') := fun W => right_any h W
  obtain ⟨r, hrk⟩ := toNat_ofNat r0
  rw [hrk] at HRk r0 r1 ⊢
  rw [hr] at HRt
  rw [Int.toNat_natCast]
  clear hrk h hr
  go_enter Tryz.func23, Tryz.ntmps23
  go_wp2_with (first | (go_at_call 30; refine (HRt.out _).mono ?_; rintro e w' ⟨rfl, rfl⟩) | (go_at_call 49; refine (HRk.out _).mono ?_; rintro e w' ⟨rfl, rfl⟩))
  go_loopw [14] (fun vi wr => BInv r w.heap.size w vi wr) (fun vi _ => 8 - (intOf vi).toNat)
  case atStart => exact ⟨0, _, by omega, rfl, Blk.new _ _ _, rfl, rfl, (Below.refl _ _).alloc (Nat.le_refl _) _⟩
  case round =>
    obtain ⟨i, xs, hi, rfl, hB, hs, hdrop, hbel⟩ := hrel
    by_cases hlt : i < 8
    · have HB := hid hB
      have HS := hid hs
      have HD := hid hdrop
      obtain ⟨v0, hcell⟩ : ∃ v, wr.cell? ⟨w.heap.size, 7 - i, none⟩ = some v := ⟨xs[7 - i]'(by omega), by rw [hB.cell, Array.getElem?_eq_getElem]⟩
      have hfree := hB.free (7 - i)
      clear hB hs hdrop hmk r0 r1
      go_wp2
      go_roundw
      case rel =>
        refine ⟨i + 1, xs.setIfInBounds (7 - i) (Value.int .u8 ((UInt8.ofNat (r / 256 ^ i % 256)).toNat : Int)), by omega, by go_num, ?_, by rw [Array.size_setIfInBounds]; exact HS.out, ?_, hbel.setCell (Nat.le_refl _) _⟩
        · rw [← byte_at]
          exact HB.out.set (7 - i) _
        · rw [show 8 - (i + 1) = 7 - i by omega]
          exact drop_set8 HS.out (by omega) (by rw [show 7 - i + 1 = 8 - i by omega]; exact HD.out)
      case measure => simp [intOf]; omega
    · obtain rfl : i = 8 := by omega
      have HD : Hid (Blk wr w.heap.size 5 (bc (byW 8 r)).toArray) := by
        have e : xs.toList = bc (byW 8 r) := hdrop
        rw [← e]
        exact hB
      clear hB hs hdrop hmk r0 r1
      go_wp2
      go_ret
      exact ⟨rfl, HD.out, hbel⟩

end Go.Proofs.YtadehoibjpmhhaaGreatDoor

/- Plain mathematics of the order of floats by their bits: it is one, it is the language's, and the other sign turns it. Conditions: ints of 64 bits. -/
namespace Go.Proofs.YtadehoibjpmhhaaGreatDoor
open Go.RowKit (wrap64)

theorem cmpI_neg (a b : Int) : cmpI a b = -cmpI b a := by unfold cmpI; repeat' split <;> omega
theorem cmpI_self (a : Int) : cmpI a a = 0 := by unfold cmpI; rw [if_neg (Int.lt_irrefl a), if_neg (Int.lt_irrefl a)]
theorem cmpI_cases (a b : Int) : cmpI a b = -1 ∨ cmpI a b = 0 ∨ cmpI a b = 1 := by unfold cmpI; repeat' split <;> omega
theorem cmpI_lt {a b : Int} : cmpI a b = -1 ↔ a < b := by unfold cmpI; repeat' split <;> omega
theorem cmpI_gt {a b : Int} : cmpI a b = 1 ↔ b < a := by unfold cmpI; repeat' split <;> omega
theorem cmpI_eq {a b : Int} : cmpI a b = 0 ↔ a = b := by unfold cmpI; repeat' split <;> omega
theorem ordI_neg (a b : Int) : ordI a b = -ordI b a := cmpI_neg _ _
theorem ordI_self (a : Int) : ordI a a = 0 := cmpI_self _
theorem ordI_cases (a b : Int) : ordI a b = -1 ∨ ordI a b = 0 ∨ ordI a b = 1 := cmpI_cases _ _
theorem ordI_trans {a b c : Int} (h1 : ordI a b = -1) (h2 : ordI b c = -1) : ordI a c = -1 := cmpI_lt.2 (Int.lt_trans (cmpI_lt.1 h1) (cmpI_lt.1 h2))

theorem canon_id {n : Int} (h : nanB n = false) : canonI n = n := by unfold canonI; rw [if_neg (by rw [h]; decide)]

theorem ord_lt {a b : Int} (ha : inI a) (hb : inI b) (na : nanB a = false) (nb : nanB b = false) (h : sr a < sr b) : ordI a b = -1 := by
  unfold ordI
  rw [canon_id na, canon_id nb, cmpI_lt]
  have h1 := of_decide_eq_false na; have h2 := of_decide_eq_false nb
  unfold inI at ha hb
  unfold sr at h
  unfold rankI
  split at h <;> split at h <;> repeat' split <;> omega
theorem ord_gt {a b : Int} (ha : inI a) (hb : inI b) (na : nanB a = false) (nb : nanB b = false) (h : sr b < sr a) : ordI a b = 1 := by
  rw [ordI_neg, ord_lt hb ha nb na h]; rfl
theorem ord_eq {a b : Int} (ha : inI a) (hb : inI b) (na : nanB a = false) (nb : nanB b = false) : ordI a b = 0 ↔ a = b := by
  unfold ordI
  rw [canon_id na, canon_id nb, cmpI_eq]
  unfold inI at ha hb
  unfold rankI
  repeat' split <;> omega

/-- How the language's order and the order by bits stand to each other: five ways. -/
theorem order_ways {a b : Int} (ha : inI a) (hb : inI b) :
    (FloatKind.f64.format.order (wd a) (wd b) = none) ∨ (FloatKind.f64.format.order (wd a) (wd b) = some .lt ∧ ordI a b = -1) ∨ (FloatKind.f64.format.order (wd a) (wd b) = some .gt ∧ ordI a b = 1) ∨
    (FloatKind.f64.format.order (wd a) (wd b) = some .eq ∧ a = b ∧ ordI a b = 0) ∨ (FloatKind.f64.format.order (wd a) (wd b) = some .eq ∧ (a == b) = false ∧ (ordI a b = -1 ∨ ordI a b = 1)) := by
  cases na : nanB a
  · cases nb : nanB b
    · rw [order_sr ha hb na nb]
      have key : ∀ x y : Int, (x < y ∧ compare x y = .lt) ∨ (y < x ∧ compare x y = .gt) ∨ (x = y ∧ compare x y = .eq) := fun x y => by
        simp only [compare, compareOfLessAndEq]
        by_cases h1 : x < y
        · exact Or.inl ⟨h1, by rw [if_pos h1]⟩
        · by_cases h2 : x = y
          · exact Or.inr (Or.inr ⟨h2, by rw [if_neg h1, if_pos h2]⟩)
          · exact Or.inr (Or.inl ⟨by omega, by rw [if_neg h1, if_neg h2]⟩)
      rcases key (sr a) (sr b) with ⟨h, e⟩ | ⟨h, e⟩ | ⟨_, e⟩
      · exact Or.inr (Or.inl ⟨by rw [e], ord_lt ha hb na nb h⟩)
      · exact Or.inr (Or.inr (Or.inl ⟨by rw [e], ord_gt ha hb na nb h⟩))
      · by_cases hab : a = b
        · exact Or.inr (Or.inr (Or.inr (Or.inl ⟨by rw [e], hab, (ord_eq ha hb na nb).2 hab⟩)))
        · refine Or.inr (Or.inr (Or.inr (Or.inr ⟨by rw [e], by simpa using hab, ?_⟩)))
          have := mt (ord_eq ha hb na nb).1 hab
          rcases ordI_cases a b with h | h | h
          · exact Or.inl h
          · exact absurd h this
          · exact Or.inr h
    · exact Or.inl (order_none (Or.inr (by rw [nanB_wd]; exact nb)))
  · exact Or.inl (order_none (Or.inl (by rw [nanB_wd]; exact na)))

theorem flip_in {n : Int} (h : inI n) : inI (flipI n) := by unfold flipI inI at *; split <;> omega
theorem flip_nan {n : Int} (_h : inI n) : nanB (flipI n) = nanB n := by
  unfold nanB flipI
  rw [Bool.eq_iff_iff, decide_eq_true_iff, decide_eq_true_iff]
  split <;> omega
theorem flip_ord {a b : Int} (ha : inI a) (hb : inI b) (na : nanB a = false) (nb : nanB b = false) : ordI (flipI a) (flipI b) = -ordI a b := by
  have na' : nanB (flipI a) = false := by rw [flip_nan ha]; exact na
  have nb' : nanB (flipI b) = false := by rw [flip_nan hb]; exact nb
  unfold ordI
  rw [canon_id na, canon_id nb, canon_id na', canon_id nb', cmpI_neg]
  congr 1
  have e : ∀ {n : Int}, inI n → rankI (flipI n) = 18446744073709551615 - rankI n := fun {n} hn => by
    unfold inI at hn
    unfold rankI flipI
    repeat' split <;> omega
  rw [e ha, e hb]
  unfold cmpI
  repeat' split <;> omega

theorem xor_top (r : Nat) (h : r < 2 ^ 63) : r ^^^ 2 ^ 63 = r + 2 ^ 63 := by
  have e : r ^^^ 2 ^ 63 = 2 ^ 63 ||| r := by
    apply Nat.eq_of_testBit_eq
    intro i
    rw [Nat.testBit_xor, Nat.testBit_or, Nat.testBit_two_pow]
    by_cases hi : 63 = i
    · subst hi
      rw [Nat.testBit_lt_two_pow h]
      simp
    · simp [hi]
  rw [e, nat_join 63 _ _ (by decide) h, Nat.add_comm]

theorem ofInt64 (n : Int) : (BitVec.ofInt 64 n).toNat = wd n := by unfold wd; rw [BitVec.toNat_ofInt]; rfl

theorem xor_sign {n : Int} (h : inI n) : bits .xor .i64 n (-9223372036854775808) = flipI n := by
  unfold inI at h
  have e1 : (BitVec.ofInt 64 (-9223372036854775808)).toNat = 2 ^ 63 := by decide
  show IntKind.i64.wrap (((BitVec.ofInt 64 n) ^^^ (BitVec.ofInt 64 (-9223372036854775808))).toNat : Nat) = flipI n
  rw [BitVec.toNat_xor, ofInt64, e1]
  unfold flipI
  by_cases hn : n < 0
  · rw [if_pos hn]
    have hw : wd n = (n + 9223372036854775808).toNat + 2 ^ 63 := by unfold wd; omega
    rw [hw, ← xor_top _ (by omega), Nat.xor_assoc, Nat.xor_self, Nat.xor_zero, IntKind.wrap_i64]
    omega
  · rw [if_neg hn]
    have hw : wd n = n.toNat := by unfold wd; omega
    rw [hw, xor_top _ (by omega), IntKind.wrap_i64]
    omega

end Go.Proofs.YtadehoibjpmhhaaGreatDoor

/- float.From for every slice of bytes: the number of its eight bytes, or nought and false. Conditions: the slice holds those bytes. -/
namespace Go.Proofs.YtadehoibjpmhhaaGreatDoor
open Go.RowKit

/-- The number of bytes, the highest first. -/
def foldB (l : List UInt8) : Nat := l.foldl (fun r x => r * 256 + x.toNat) 0
theorem foldB_snoc (l : List UInt8) (x : UInt8) : foldB (l ++ [x]) = foldB l * 256 + x.toNat := by unfold foldB; rw [List.foldl_append]; rfl
theorem foldB_lt (l : List UInt8) : foldB l < 256 ^ l.length := by
  induction h : l.length generalizing l with
  | zero => have : l = [] := List.length_eq_zero_iff.1 h
            subst this; decide
  | succ n ih =>
    obtain ⟨l', x, rfl⟩ : ∃ l' x, l = l' ++ [x] := ⟨l.dropLast, l.getLast (by intro e; rw [e] at h; simp at h), (List.dropLast_concat_getLast _).symm⟩
    have hl : l'.length = n := by simpa using h
    rw [foldB_snoc, Nat.pow_succ]
    have := ih l' hl
    have hx := x.toNat_lt
    omega
theorem foldB_take (l : List UInt8) (k : Nat) (h : k < l.length) : foldB (l.take (k + 1)) = foldB (l.take k) * 256 + (l.getD k 0).toNat := by
  rw [List.take_succ_eq_append_getElem h, foldB_snoc, List.getD_eq_getElem?_getD, List.getElem?_eq_getElem h, Option.getD_some]
theorem foldB_byW (k : Nat) : ∀ r, r < 256 ^ k → foldB (byW k r) = r := by
  induction k with
  | zero => intro r h; have : r = 0 := by simpa using h
            subst this; rfl
  | succ k ih =>
    intro r h
    have h2 : r / 256 < 256 ^ k := by rw [Nat.pow_succ] at h; omega
    rw [byW, foldB_snoc, ih _ h2, UInt8.toNat_ofNat']
    have : r % 256 % 2 ^ 8 = r % 256 := Nat.mod_eq_of_lt (by omega)
    rw [this]
    omega

def unrankI (r : Int) : Int := if r < 9223372036854775808 then -1 - r else r - 9223372036854775808
theorem unrank_rank {n : Int} (h : inI n) : unrankI (rankI n) = n := by unfold unrankI rankI inI at *; repeat' split <;> omega
theorem unrank_in {r : Int} (h0 : 0 ≤ r) (h : r < 18446744073709551616) : inI (unrankI r) := by unfold unrankI inI; split <;> omega

theorem topR {r : Int} (h0 : 0 ≤ r) (h : r < 18446744073709551616) : (bits .and .u64 r 9223372036854775808 != 0) = decide (9223372036854775808 ≤ r) := by
  rw [u64_and _ _ (by omega) (by omega) (by omega) (by omega)]
  have e : r.toNat &&& (9223372036854775808 : Int).toNat = r.toNat / 2 ^ 63 % 2 * 2 ^ 63 := nat_bit 63 _
  rw [e]
  by_cases hn : 9223372036854775808 ≤ r
  · rw [decide_eq_true hn, bne_iff_ne]; omega
  · rw [decide_eq_false hn]; simp; omega
theorem turnR {r : Int} (h0 : 0 ≤ r) (h : r < 18446744073709551616) : bits .xor .u64 IntKind.u64.max r = 18446744073709551615 - r := by
  have hm : IntKind.u64.max = 18446744073709551615 := rfl
  rw [hm, u64_xor _ _ (by omega) (by omega) (by omega) (by omega)]
  obtain ⟨k, rfl⟩ := toNat_ofNat h0
  have hk2 : k < 2 ^ 64 := by omega
  have e : (18446744073709551615 : Int).toNat ^^^ (k : Int).toNat = 2 ^ 64 - 1 - k := by
    rw [show (18446744073709551615 : Int).toNat = 2 ^ 64 - 1 from rfl, Int.toNat_natCast]
    apply Nat.eq_of_testBit_eq
    intro i
    rw [Nat.testBit_xor, Nat.testBit_two_pow_sub_one, show 2 ^ 64 - 1 - k = 2 ^ 64 - (k + 1) by omega, Nat.testBit_two_pow_sub_succ hk2]
    by_cases hi : i < 64
    · simp [hi]
    · have : k.testBit i = false := Nat.testBit_lt_two_pow (Nat.lt_of_lt_of_le hk2 (Nat.pow_le_pow_right (by omega) (by omega)))
      simp [hi, this]
  rw [e]
  omega
theorem clearR {r : Int} (h0 : 0 ≤ r) (h : r < 18446744073709551616) : bits .andNot .u64 r 9223372036854775808 = r % 9223372036854775808 := by
  rw [u64_andNot _ _ (by omega) (by omega) (by omega) (by omega)]
  have e : r.toNat &&& (18446744073709551615 - (9223372036854775808 : Int).toNat) = r.toNat % 2 ^ 63 := Nat.and_two_pow_sub_one_eq_mod _ 63
  rw [e]
  omega

set_option maxHeartbeats 400000 in
theorem unrank_any {r : Int} (h0 : 0 ≤ r) (h : r < 18446744073709551616) (w : World) :
    Calls Tryz.prog 61 #[.int .u64 r] w fun e w' => e = .returned (.int .i64 (unrankI r)) ∧ w = w' := by
  have ht := topR h0 h
  have hx := turnR h0 h
  have hcl := clearR h0 h
  by_cases hn : 9223372036854775808 ≤ r
  · rw [decide_eq_true hn] at ht
    have hw : wrap64 (bits .andNot .u64 r 9223372036854775808) = unrankI r := by rw [hcl]; unfold wrap64 unrankI; rw [if_neg (by omega)]; omega
    rw [← hw]
    clear hx hcl hn h h0 hw
    go_enter Tryz.func61, Tryz.ntmps61
    go_wp2
    go_ret
    exact ⟨rfl, rfl⟩
  · rw [decide_eq_false hn] at ht
    have hw : wrap64 (bits .xor .u64 IntKind.u64.max r) = unrankI r := by rw [hx]; unfold wrap64 unrankI; rw [if_pos (by omega)]; omega
    rw [← hw]
    clear hx hcl hn h h0 hw
    go_enter Tryz.func61, Tryz.ntmps61
    go_wp2
    go_ret
    exact ⟨rfl, rfl⟩

theorem or_byte {r : Int} (h0 : 0 ≤ r) (h : r < 72057594037927936) (x : Nat) (hx : x < 256) : bits .or .u64 (r * 256) (x : Int) = r * 256 + x := by
  rw [u64_or _ _ (by omega) (by omega) (by omega) (by omega), Int.toNat_natCast]
  have e := nat_join 8 (r * 256).toNat x (by omega) hx
  rw [e]
  omega

set_option maxHeartbeats 1000000 in
theorem from_no {a : Option Addr} (n c : Nat) (hn : n ≠ 8) (w : World) :
    Calls Tryz.prog 35 #[.slice a n c] w fun e w' => e = .returned (.tuple #[.int .i64 0, .bool false]) ∧ w = w' := by
  have h8 : ((n : Int) == 8) = false := by simpa using fun h => hn (by omega)
  go_enter Tryz.func35, Tryz.ntmps35
  go_wp2
  go_ret2
  exact ⟨rfl, rfl⟩

def fromEnd (n : Int) : Ending := if rightB n = true then .returned (.tuple #[.int .i64 n, .bool true]) else .returned (.tuple #[.int .i64 0, .bool false])

set_option maxHeartbeats 1000000 in
set_option maxRecDepth 100000 in
theorem from_yes (l : List UInt8) (hl : l.length = 8) (b c : Nat) (w : World) (hcells : ∀ i, i < 8 → w.cell? ⟨b, i, none⟩ = some (.int .u8 ((l.getD i 0).toNat : Int))) :
    Calls Tryz.prog 35 #[.slice (some ⟨b, 0, none⟩) 8 c] w fun e w' => e = fromEnd (unrankI (foldB l)) ∧ w = w' := by
  have HL := hid hl
  have HC := hid hcells
  clear hl hcells
  go_enter Tryz.func35, Tryz.ntmps35
  go_wp2
  go_loop [4, 13] (fun vr vi => ∃ (k : Nat) (r : Int), k ≤ 8 ∧ vr = .int .u64 r ∧ vi = .int .i64 k ∧ 0 ≤ r ∧ r = foldB (l.take k)) (fun _ vi => 8 - (intOf vi).toNat)
  case atStart => exact ⟨0, 0, by omega, rfl, rfl, by omega, rfl⟩
  case round =>
    obtain ⟨k, r, hk, rfl, rfl, hr0, hr⟩ := hrel
    by_cases hlt : k < 8
    · have hb : r < 72057594037927936 := by
        have h1 := foldB_lt (l.take k)
        have h2 : (l.take k).length ≤ 7 := by rw [List.length_take]; omega
        have h3 : 256 ^ (l.take k).length ≤ 256 ^ 7 := Nat.pow_le_pow_right (by omega) h2
        rw [hr]
        omega
      have hcell := HC.out k hlt
      have hx := (l.getD k 0).toNat_lt
      obtain ⟨x, hxe⟩ : ∃ x, (l.getD k 0).toNat = x := ⟨_, rfl⟩
      rw [hxe] at hcell hx
      have hor := or_byte hr0 hb x (by omega)
      have HN : Hid (r * 256 + x = ((foldB (l.take (k + 1)) : Nat) : Int)) := hid (by rw [foldB_take l k (by rw [HL.out]; exact hlt), hxe, hr]; omega)
      have hx2 : x ≤ 255 := by omega
      clear hr hxe hx
      go_wp2
      go_round
      case rel => exact ⟨k + 1, r * 256 + x, by omega, rfl, by go_num, by omega, HN.out⟩
      case measure => simp [intOf]; omega
    · obtain rfl : k = 8 := by omega
      have hr8 : r = foldB l := by rw [hr, List.take_of_length_le (by rw [HL.out]; omega)]
      have hb : r < 18446744073709551616 := by
        have h1 := foldB_lt l
        rw [HL.out] at h1
        rw [hr8]
        have : (256 : Nat) ^ 8 = 18446744073709551616 := by decide
        omega
      obtain ⟨n, hn⟩ : ∃ n, unrankI (foldB l) = n := ⟨_, rfl⟩
      have hun : unrankI r = n := by rw [hr8]; exact hn
      have HU : Hid (∀ W, Calls Tryz.prog 61 #[.int .u64 r] W fun e w' => e = .returned (.int .i64 n) ∧ W = w') := fun W => by rw [← hun]; exact unrank_any hr0 hb W
      have hin : inI n := by rw [← hun]; exact unrank_in hr0 hb
      clear hr hr8 hb hr0 hun
      cases hrt : rightB n
      · have HFE : Hid (fromEnd (unrankI (foldB l)) = .returned (.tuple #[.int .i64 0, .bool false])) := by show fromEnd (unrankI (foldB l)) = _; rw [hn]; unfold fromEnd; rw [if_neg (by rw [hrt]; decide)]
        clear hn
        go_wp2_with (first | (go_at_call 61; refine (HU.out _).mono ?_; rintro e w' ⟨rfl, rfl⟩) | (go_at_call 30; refine (right_any (by assumption) _).mono ?_; rintro e w' ⟨rfl, rfl⟩))
        go_ret2
        rw [HFE.out]
        exact ⟨rfl, rfl⟩
      · have HFE : Hid (fromEnd (unrankI (foldB l)) = .returned (.tuple #[.int .i64 n, .bool true])) := by show fromEnd (unrankI (foldB l)) = _; rw [hn]; unfold fromEnd; rw [if_pos hrt]
        clear hn
        go_wp2_with (first | (go_at_call 61; refine (HU.out _).mono ?_; rintro e w' ⟨rfl, rfl⟩) | (go_at_call 30; refine (right_any (by assumption) _).mono ?_; rintro e w' ⟨rfl, rfl⟩))
        go_ret2
        rw [HFE.out]
        exact ⟨rfl, rfl⟩

end Go.Proofs.YtadehoibjpmhhaaGreatDoor

/- Rows of bytes in order, and what Bytes, Show and Read of package float give in a later world. Conditions: the table of math/bits reads as it is laid. -/
namespace Go.Proofs.YtadehoibjpmhhaaGreatDoor
open Go.RowKit

/-- Where two rows of bytes part: below, level or above. -/
def lexC : List UInt8 → List UInt8 → Int
  | a :: u, b :: v => if a.toNat < b.toNat then -1 else if b.toNat < a.toNat then 1 else lexC u v
  | _, _ => 0

theorem foldB_cons (l : List UInt8) (x : UInt8) : foldB (x :: l) = x.toNat * 256 ^ l.length + foldB l := by
  induction h : l.length generalizing l with
  | zero => have : l = [] := List.length_eq_zero_iff.1 h
            subst this; simp [foldB]
  | succ n ih =>
    obtain ⟨l', y, rfl⟩ : ∃ l' y, l = l' ++ [y] := ⟨l.dropLast, l.getLast (by intro e; rw [e] at h; simp at h), (List.dropLast_concat_getLast _).symm⟩
    have hl : l'.length = n := by simpa using h
    rw [← List.cons_append, foldB_snoc, foldB_snoc, ih l' hl, Nat.pow_succ, Nat.add_mul, Nat.mul_assoc]
    omega

theorem lexC_fold (l m : List UInt8) (h : l.length = m.length) : lexC l m = cmpI (foldB l) (foldB m) := by
  induction l generalizing m with
  | nil => cases m with
    | nil => rfl
    | cons => simp at h
  | cons a u ih => cases m with
    | nil => simp at h
    | cons b bs =>
      have h' : u.length = bs.length := by simpa using h
      have h1 := foldB_lt u
      have h2 := foldB_lt bs
      rw [foldB_cons, foldB_cons, lexC, ih bs h', h']
      rw [h'] at h1
      generalize 256 ^ bs.length = P at *
      have ml : ∀ x y : Nat, x < y → x * P + P ≤ y * P := fun x y hxy => by
        have := Nat.mul_le_mul_right P (show x + 1 ≤ y from hxy)
        rw [Nat.add_mul, Nat.one_mul] at this
        exact this
      by_cases c1 : a.toNat < b.toNat
      · rw [if_pos c1]
        have := ml _ _ c1
        exact (cmpI_lt.2 (by omega)).symm
      · rw [if_neg c1]
        by_cases c2 : b.toNat < a.toNat
        · rw [if_pos c2]
          have := ml _ _ c2
          exact (cmpI_gt.2 (by omega)).symm
        · rw [if_neg c2]
          have e : a.toNat = b.toNat := by omega
          rw [e]
          unfold cmpI
          repeat' split <;> omega

theorem lexC_drop (l m : List UInt8) (k : Nat) (h : k < l.length) (h' : k < m.length) :
    lexC (l.drop k) (m.drop k) = if (l.getD k 0).toNat < (m.getD k 0).toNat then -1 else if (m.getD k 0).toNat < (l.getD k 0).toNat then 1 else lexC (l.drop (k + 1)) (m.drop (k + 1)) := by
  rw [List.drop_eq_getElem_cons h, List.drop_eq_getElem_cons h', lexC]
  simp only [List.getD_eq_getElem?_getD, List.getElem?_eq_getElem h, List.getElem?_eq_getElem h', Option.getD_some]

theorem right_canon {n : Int} (h : rightB n = true) : canonI n = n := by
  unfold rightB at h
  unfold canonI
  cases hb : nanB n
  · rw [if_neg (by decide)]
  · rw [hb] at h
    simp at h
    rw [if_pos rfl, h]

/-- The bytes of right numbers are in order as they are. -/
theorem lexC_order {a b : Int} (ha : inI a) (hb : inI b) (ra : rightB a = true) (rb : rightB b = true) : lexC (byW 8 (rankI a).toNat) (byW 8 (rankI b).toNat) = ordI a b := by
  obtain ⟨a0, a1⟩ := rank_in ha
  obtain ⟨b0, b1⟩ := rank_in hb
  have p : (256 : Nat) ^ 8 = 18446744073709551616 := by decide
  rw [lexC_fold _ _ (by rw [byW_len, byW_len]), foldB_byW 8 _ (by omega), foldB_byW 8 _ (by omega)]
  unfold ordI
  rw [right_canon ra, right_canon rb, Int.toNat_of_nonneg a0, Int.toNat_of_nonneg b0]

theorem from_bytes {n : Int} (h : inI n) (r : rightB n = true) : fromEnd (unrankI (foldB (byW 8 (rankI n).toNat))) = .returned (.tuple #[.int .i64 n, .bool true]) := by
  obtain ⟨a0, a1⟩ := rank_in h
  have p : (256 : Nat) ^ 8 = 18446744073709551616 := by decide
  rw [foldB_byW 8 _ (by omega), Int.toNat_of_nonneg a0, unrank_rank h]
  unfold fromEnd
  rw [if_pos r]

/-- A block that holds bytes: its cells. -/
theorem Blk.bytes {w : World} {b : Nat} {l : List UInt8} (h : Blk w b 5 (bc l).toArray) (i : Nat) (hi : i < l.length) : w.cell? ⟨b, i, none⟩ = some (.int .u8 ((l.getD i 0).toNat : Int)) := by
  rw [h.cell]
  simp [bc, List.getElem?_eq_getElem hi]

theorem bytes_carried {n : Int} (h : inI n) (r : rightB n = true) (w W : World) (hW : Below w.heap.size w W) :
    Calls Tryz.prog 23 #[.int .i64 n] W fun e w' => e = .returned (.slice (some ⟨W.heap.size, 0, none⟩) 8 8) ∧ Blk w' W.heap.size 5 (bc (byW 8 (rankI n).toNat)).toArray ∧ Below w.heap.size w w' ∧ Below W.heap.size W w' :=
  (bytes_yes h r W).mono fun _ _ ⟨he, hB, hb⟩ => ⟨he, hB, hW.trans (hb.mono hW.size), hb⟩
theorem show_carried {n : Int} (h : inI n) (w W : World) (hc : w.cell? ⟨8, 15, none⟩ = some (.int .u8 4)) (hW : Below w.heap.size w W) :
    Calls Tryz.prog 27 #[.int .i64 n] W fun e w' => e = .returned (.string ⟨(showT n).toArray⟩) ∧ Below w.heap.size w w' :=
  (show_any h W (by rw [hW.cell (cell_lt hc)]; exact hc)).mono fun _ _ ⟨he, hb⟩ => ⟨he, hW.trans (hb.mono hW.size)⟩
theorem read_carried {n : Int} (h : inI n) (r : rightB n = true) (w W : World) (hc : w.cell? ⟨8, 15, none⟩ = some (.int .u8 4)) (hW : Below w.heap.size w W) :
    Calls Tryz.prog 43 #[.string ⟨(showT n).toArray⟩] W fun e w' => e = .returned (.tuple #[.int .i64 n, .bool true]) ∧ Below w.heap.size w w' := by
  have e : showT n = textW (wd n) := by unfold showT; rw [if_pos r]
  rw [e]
  exact (read_text h r W (by rw [hW.cell (cell_lt hc)]; exact hc)).mono fun _ _ ⟨he, hb⟩ => ⟨he, hW.trans (hb.mono hW.size)⟩

theorem canon_nan {n : Int} (h : nanB n = true) : canonI n = 9221120237041090560 := by unfold canonI; rw [if_pos h]
theorem canon_num {n : Int} (h : nanB n = false) : canonI n = n := by unfold canonI; rw [if_neg (by rw [h]; decide)]
theorem right_num {n : Int} (h : nanB n = false) : rightB n = true := by unfold rightB; rw [h]; simp
theorem right_other {n : Int} (h : nanB n = true) (hn : ¬ n = 9221120237041090560) : rightB n = false := by unfold rightB; rw [h]; simpa using hn
theorem in_nan : inI 9221120237041090560 := by unfold inI; omega
theorem right_nan : rightB 9221120237041090560 = true := by decide

theorem nan_of_right {n : Int} (h : rightB n = true) (hn : ¬ n = 9221120237041090560) : nanB n = false := by
  unfold rightB at h
  cases hb : nanB n
  · rfl
  · rw [hb] at h
    simp at h
    exact absurd h hn

end Go.Proofs.YtadehoibjpmhhaaGreatDoor

/- Plain mathematics of values of five kinds: which are right, their order, their bytes. No program in it. -/
namespace Go.Proofs.YtadehoibjpmhhaaGreatDoor
open Go.RowKit

/-- Is the value (kind k, number n, bytes s) right? -/
def vRight (k n : Int) (s : List UInt8) : Bool :=
  if k = 1 then s.isEmpty else if k = 2 then n == 0 && decide (s.length ≤ 32) else if k = 3 then n == 0 && decide (s.length ≤ 32) && Lib.validD s
  else if k = 4 then s.isEmpty && (n == 0 || n == 1) else if k = 5 then s.isEmpty && rightB n else false
def vNum (k a b : Int) : Int := if k = 5 then ordI a b else cmpI a b
def vOrd (k1 n1 : Int) (s1 : List UInt8) (k2 n2 : Int) (s2 : List UInt8) : Int :=
  if k1 = k2 then (if vNum k1 n1 n2 = 0 then Lib.compareBytes s1 s2 else vNum k1 n1 n2) else cmpI k1 k2

/-- Bytes in which each 0 is 0, 255. -/
def esc : List UInt8 → List UInt8
  | [] => []
  | c :: l => if c = 0 then 0 :: 255 :: esc l else c :: esc l
theorem esc_app (a b : List UInt8) : esc (a ++ b) = esc a ++ esc b := by
  induction a with
  | nil => rfl
  | cons c l ih => simp only [List.cons_append, esc, ih]; split <;> rfl
theorem esc_len (l : List UInt8) : (esc l).length ≤ 2 * l.length := by
  induction l with
  | nil => simp [esc]
  | cons c l ih => simp only [esc]; split <;> simp <;> omega

/-- The number of an int's eight bytes. -/
def upI (n : Int) : Nat := (n + 9223372036854775808).toNat
theorem upI_lt {n : Int} (h : inI n) : upI n < 18446744073709551616 := by unfold upI inI at *; omega
/-- The bytes behind the kind. -/
def vBody (k n : Int) (s : List UInt8) : List UInt8 :=
  if k = 1 then byW 8 (upI n) else if k = 5 then byW 8 (rankI n).toNat else if k = 4 then [UInt8.ofNat n.toNat] else esc s ++ [0, 1]
def vEnc (k n : Int) (s : List UInt8) : List UInt8 := UInt8.ofNat k.toNat :: vBody k n s

theorem right_kind {k n : Int} {s : List UInt8} (h : vRight k n s = true) : k = 1 ∨ k = 2 ∨ k = 3 ∨ k = 4 ∨ k = 5 := by
  unfold vRight at h
  by_cases h1 : k = 1; · omega
  by_cases h2 : k = 2; · omega
  by_cases h3 : k = 3; · omega
  by_cases h4 : k = 4; · omega
  by_cases h5 : k = 5; · omega
  rw [if_neg h1, if_neg h2, if_neg h3, if_neg h4, if_neg h5] at h
  cases h
theorem right_len {k n : Int} {s : List UInt8} (h : vRight k n s = true) : s.length ≤ 32 := by
  rcases right_kind h with rfl | rfl | rfl | rfl | rfl <;> simp [vRight] at h <;> simp [h] <;> omega

end Go.Proofs.YtadehoibjpmhhaaGreatDoor
