/- Plain mathematics of the order of floats by their bits: it is one, it is the language's, and the other sign turns it. Conditions: ints of 64 bits. -/
import Derived.Test.YtfcnobcpnhfgmaaDoorFM
namespace Go.Proofs.YtfcnobcpnhfgmaaDoor
open Go.RowKit (wrap64)

theorem cmpI_neg (a b : Int) : cmpI a b = -cmpI b a := by unfold cmpI; repeat' split <;> omega
theorem cmpI_self (a : Int) : cmpI a a = 0 := by unfold cmpI; rw [if_neg (Int.lt_irrefl a), if_neg (Int.lt_irrefl a)]
theorem cmpI_cases (a b : Int) : cmpI a b = -1 ∨ cmpI a b = 0 ∨ cmpI a b = 1 := by unfold cmpI; repeat' split <;> omega
theorem cmpI_lt {a b : Int} : cmpI a b = -1 ↔ a < b := by unfold cmpI; repeat' split <;> omega
theorem cmpI_gt {a b : Int} : cmpI a b = 1 ↔ b < a := by unfold cmpI; repeat' split <;> omega
theorem cmpI_eq {a b : Int} : cmpI a b = 0 ↔ a = b := by unfold cmpI; repeat' split <;> omega
theorem ordI_neg (a b : Int) : ordI a b = -ordI b a := cmpI_neg _ _
theorem ordI_self (a : Int) : ordI a a = 0 := cmpI_self _
theorem ordI_cases (a b : Int) : ordI a b = -1 ∨ ordI a b = 0 ∨ ordI a b = 1 := cmpI_cases _ _
theorem ordI_trans {a b c : Int} (h1 : ordI a b = -1) (h2 : ordI b c = -1) : ordI a c = -1 := cmpI_lt.2 (Int.lt_trans (cmpI_lt.1 h1) (cmpI_lt.1 h2))

theorem canon_id {n : Int} (h : nanB n = false) : canonI n = n := by unfold canonI; rw [if_neg (by rw [h]; decide)]

theorem ord_lt {a b : Int} (ha : inI a) (hb : inI b) (na : nanB a = false) (nb : nanB b = false) (h : sr a < sr b) : ordI a b = -1 := by
  unfold ordI
  rw [canon_id na, canon_id nb, cmpI_lt]
  have h1 := of_decide_eq_false na; have h2 := of_decide_eq_false nb
  unfold inI at ha hb
  unfold sr at h
  unfold rankI
  split at h <;> split at h <;> repeat' split <;> omega
theorem ord_gt {a b : Int} (ha : inI a) (hb : inI b) (na : nanB a = false) (nb : nanB b = false) (h : sr b < sr a) : ordI a b = 1 := by
  rw [ordI_neg, ord_lt hb ha nb na h]; rfl
theorem ord_eq {a b : Int} (ha : inI a) (hb : inI b) (na : nanB a = false) (nb : nanB b = false) : ordI a b = 0 ↔ a = b := by
  unfold ordI
  rw [canon_id na, canon_id nb, cmpI_eq]
  unfold inI at ha hb
  unfold rankI
  repeat' split <;> omega

/-- How the language's order and the order by bits stand to each other: five ways. -/
theorem order_ways {a b : Int} (ha : inI a) (hb : inI b) :
    (FloatKind.f64.format.order (wd a) (wd b) = none) ∨ (FloatKind.f64.format.order (wd a) (wd b) = some .lt ∧ ordI a b = -1) ∨ (FloatKind.f64.format.order (wd a) (wd b) = some .gt ∧ ordI a b = 1) ∨
    (FloatKind.f64.format.order (wd a) (wd b) = some .eq ∧ a = b ∧ ordI a b = 0) ∨ (FloatKind.f64.format.order (wd a) (wd b) = some .eq ∧ (a == b) = false ∧ (ordI a b = -1 ∨ ordI a b = 1)) := by
  cases na : nanB a
  · cases nb : nanB b
    · rw [order_sr ha hb na nb]
      have key : ∀ x y : Int, (x < y ∧ compare x y = .lt) ∨ (y < x ∧ compare x y = .gt) ∨ (x = y ∧ compare x y = .eq) := fun x y => by
        simp only [compare, compareOfLessAndEq]
        by_cases h1 : x < y
        · exact Or.inl ⟨h1, by rw [if_pos h1]⟩
        · by_cases h2 : x = y
          · exact Or.inr (Or.inr ⟨h2, by rw [if_neg h1, if_pos h2]⟩)
          · exact Or.inr (Or.inl ⟨by omega, by rw [if_neg h1, if_neg h2]⟩)
      rcases key (sr a) (sr b) with ⟨h, e⟩ | ⟨h, e⟩ | ⟨_, e⟩
      · exact Or.inr (Or.inl ⟨by rw [e], ord_lt ha hb na nb h⟩)
      · exact Or.inr (Or.inr (Or.inl ⟨by rw [e], ord_gt ha hb na nb h⟩))
      · by_cases hab : a = b
        · exact Or.inr (Or.inr (Or.inr (Or.inl ⟨by rw [e], hab, (ord_eq ha hb na nb).2 hab⟩)))
        · refine Or.inr (Or.inr (Or.inr (Or.inr ⟨by rw [e], by simpa using hab, ?_⟩)))
          have := mt (ord_eq ha hb na nb).1 hab
          rcases ordI_cases a b with h | h | h
          · exact Or.inl h
          · exact absurd h this
          · exact Or.inr h
    · exact Or.inl (order_none (Or.inr (by rw [nanB_wd]; exact nb)))
  · exact Or.inl (order_none (Or.inl (by rw [nanB_wd]; exact na)))

theorem flip_in {n : Int} (h : inI n) : inI (flipI n) := by unfold flipI inI at *; split <;> omega
theorem flip_nan {n : Int} (_h : inI n) : nanB (flipI n) = nanB n := by
  unfold nanB flipI
  rw [Bool.eq_iff_iff, decide_eq_true_iff, decide_eq_true_iff]
  split <;> omega
theorem flip_ord {a b : Int} (ha : inI a) (hb : inI b) (na : nanB a = false) (nb : nanB b = false) : ordI (flipI a) (flipI b) = -ordI a b := by
  have na' : nanB (flipI a) = false := by rw [flip_nan ha]; exact na
  have nb' : nanB (flipI b) = false := by rw [flip_nan hb]; exact nb
  unfold ordI
  rw [canon_id na, canon_id nb, canon_id na', canon_id nb', cmpI_neg]
  congr 1
  have e : ∀ {n : Int}, inI n → rankI (flipI n) = 18446744073709551615 - rankI n := fun {n} hn => by
    unfold inI at hn
    unfold rankI flipI
    repeat' split <;> omega
  rw [e ha, e hb]
  unfold cmpI
  repeat' split <;> omega

theorem xor_top (r : Nat) (h : r < 2 ^ 63) : r ^^^ 2 ^ 63 = r + 2 ^ 63 := by
  have e : r ^^^ 2 ^ 63 = 2 ^ 63 ||| r := by
    apply Nat.eq_of_testBit_eq
    intro i
    rw [Nat.testBit_xor, Nat.testBit_or, Nat.testBit_two_pow]
    by_cases hi : 63 = i
    · subst hi
      rw [Nat.testBit_lt_two_pow h]
      simp
    · simp [hi]
  rw [e, nat_join 63 _ _ (by decide) h, Nat.add_comm]

theorem ofInt64 (n : Int) : (BitVec.ofInt 64 n).toNat = wd n := by unfold wd; rw [BitVec.toNat_ofInt]; rfl

theorem xor_sign {n : Int} (h : inI n) : bits .xor .i64 n (-9223372036854775808) = flipI n := by
  unfold inI at h
  have e1 : (BitVec.ofInt 64 (-9223372036854775808)).toNat = 2 ^ 63 := by decide
  show IntKind.i64.wrap (((BitVec.ofInt 64 n) ^^^ (BitVec.ofInt 64 (-9223372036854775808))).toNat : Nat) = flipI n
  rw [BitVec.toNat_xor, ofInt64, e1]
  unfold flipI
  by_cases hn : n < 0
  · rw [if_pos hn]
    have hw : wd n = (n + 9223372036854775808).toNat + 2 ^ 63 := by unfold wd; omega
    rw [hw, ← xor_top _ (by omega), Nat.xor_assoc, Nat.xor_self, Nat.xor_zero, IntKind.wrap_i64]
    omega
  · rw [if_neg hn]
    have hw : wd n = n.toNat := by unfold wd; omega
    rw [hw, xor_top _ (by omega), IntKind.wrap_i64]
    omega

end Go.Proofs.YtfcnobcpnhfgmaaDoor
