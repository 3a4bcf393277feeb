/- Plain mathematics: a right value is what its bytes are decoded to, and nothing else is. No program in it. Conditions: the numbers are of 64 bits. -/
import Derived.Test.YtfcnobcpnhfgmaaDoorWE
import Derived.Test.YtfcnobcpnhfgmaaDoorVKb
namespace Go.Proofs.YtfcnobcpnhfgmaaDoor
open Go.RowKit

theorem byW_foldB : ∀ (k : Nat) (l : List UInt8), l.length = k → byW k (foldB l) = l
  | 0, l, h => by
    have : l = [] := List.length_eq_zero_iff.1 h
    subst this; rfl
  | k + 1, l, h => by
    obtain ⟨l', y, rfl⟩ : ∃ l' y, l = l' ++ [y] := ⟨l.dropLast, l.getLast (by intro e; rw [e] at h; simp at h), (List.dropLast_concat_getLast _).symm⟩
    have hl : l'.length = k := by simpa using h
    have hy := y.toNat_lt
    have e1 : (foldB l' * 256 + y.toNat) / 256 = foldB l' := by omega
    have e2 : (foldB l' * 256 + y.toNat) % 256 = y.toNat := by omega
    rw [foldB_snoc, byW, e1, e2, byW_foldB k l' hl]
    simp
theorem rank_unrank {r : Int} (h0 : 0 ≤ r) (h : r < 18446744073709551616) : rankI (unrankI r) = r := by unfold unrankI rankI; repeat' split <;> omega
theorem foldB_8 (l : List UInt8) (h : l.length = 8) : (foldB l : Int) < 18446744073709551616 := by
  have hb := foldB_lt l
  rw [h, show (256 : Nat) ^ 8 = 18446744073709551616 by decide] at hb
  omega

theorem unText_esc (s : List UInt8) : unText (esc s ++ [0, 1]) = some s := by
  unfold unText
  have hl : (esc s ++ [0, 1]).length = (esc s).length + 2 := by simp
  rw [hl, if_neg (by omega), if_pos ?_]
  · rw [show (esc s).length + 2 - 2 = (esc s).length by omega, List.take_left']
    · exact unesc_esc s
    · rfl
  · constructor
    · rw [show (esc s).length + 2 - 2 = (esc s).length by omega]; simp
    · rw [show (esc s).length + 2 - 1 = (esc s).length + 1 by omega]; simp
theorem unText_back {l s : List UInt8} (h : unText l = some s) : esc s ++ [0, 1] = l := by
  unfold unText at h
  by_cases hl : l.length < 2
  · rw [if_pos hl] at h; cases h
  · rw [if_neg hl] at h
    by_cases hc : l.getD (l.length - 2) 0 = 0 ∧ l.getD (l.length - 1) 0 = 1
    · rw [if_pos hc] at h
      have e := esc_unesc _ _ _ (Nat.le_refl _) h
      rw [e]
      obtain ⟨m, hm⟩ : ∃ m, l.length = m + 2 := ⟨l.length - 2, by omega⟩
      rw [hm] at hc ⊢
      obtain ⟨c1, c2⟩ := hc
      rw [show m + 2 - 2 = m by omega] at c1 ⊢
      rw [show m + 2 - 1 = m + 1 by omega] at c2
      apply List.ext_getElem?
      intro i
      rw [List.getD_eq_getElem?_getD] at c1 c2
      rcases Nat.lt_or_ge i m with h1 | h1
      · rw [List.getElem?_append_left (by simp; omega), List.getElem?_take_of_lt h1]
      · rw [List.getElem?_append_right (by simp; omega)]
        have e2 : (List.take m l).length = m := by simp; omega
        rw [e2]
        rcases (show i = m ∨ i = m + 1 ∨ m + 2 ≤ i by omega) with rfl | rfl | h2
        · rw [List.getElem?_eq_getElem (show i < l.length by omega)] at c1 ⊢
          simp at c1 ⊢
          exact c1.symm
        · rw [List.getElem?_eq_getElem (show m + 1 < l.length by omega)] at c2 ⊢
          simp at c2 ⊢
          exact c2.symm
        · rw [List.getElem?_eq_none (by simp; omega), List.getElem?_eq_none (by omega)]
    · rw [if_neg hc] at h; cases h

theorem vBody5 (n : Int) (s : List UInt8) : vBody 5 n s = byW 8 (rankI n).toNat := by
  unfold vBody
  rw [if_neg (show ¬ (5 : Int) = 1 by decide), if_pos (show (5 : Int) = 5 from rfl)]
theorem decV5 (l : List UInt8) : decV 5 l = if l.length = 8 then (if rightB (unrankI (foldB l)) = true then some (unrankI (foldB l), []) else none) else none := by
  unfold decV
  rw [if_neg (show ¬ (5 : Int) = 1 by decide), if_pos (show (5 : Int) = 5 from rfl)]
/-- Behind its kind a right value's bytes give it back. -/
theorem decV_body {k n : Int} {s : List UInt8} (i : inI n) (h : vRight k n s = true) : decV k (vBody k n s) = some (n, s) := by
  rcases right_kind h with rfl | rfl | rfl | rfl | rfl
  · simp only [vRight] at h
    simp at h
    subst h
    have hu := upI_lt i
    have p : (256 : Nat) ^ 8 = 18446744073709551616 := by decide
    unfold decV vBody
    rw [if_pos rfl, if_pos rfl, if_pos (byW_len _ _), foldB_byW 8 _ (by omega)]
    unfold upI inI at *
    rw [Int.toNat_of_nonneg (by omega)]
    congr 2
    omega
  · simp only [vRight] at h
    simp at h
    obtain ⟨rfl, _⟩ := h
    unfold decV vBody
    rw [if_neg (by decide), if_neg (by decide), if_neg (by decide), if_pos (by decide), if_neg (by decide), if_neg (by decide), if_neg (by decide), unText_esc]
    rfl
  · simp only [vRight] at h
    simp at h
    obtain ⟨⟨rfl, _⟩, _⟩ := h
    unfold decV vBody
    rw [if_neg (by decide), if_neg (by decide), if_neg (by decide), if_pos (by decide), if_neg (by decide), if_neg (by decide), if_neg (by decide), unText_esc]
    rfl
  · simp only [vRight] at h
    simp at h
    obtain ⟨rfl, rfl | rfl⟩ := h <;> decide
  · simp only [vRight] at h
    simp at h
    obtain ⟨rfl, hr⟩ := h
    obtain ⟨a0, a1⟩ := rank_in i
    have p : (256 : Nat) ^ 8 = 18446744073709551616 := by decide
    rw [vBody5, decV5, if_pos (byW_len _ _), foldB_byW 8 _ (by omega), Int.toNat_of_nonneg a0, unrank_rank i, if_pos hr]

/-- What is decoded to a right value is that value's bytes. -/
theorem body_decV {k n : Int} {s l : List UInt8} (hd : decV k l = some (n, s)) (h : vRight k n s = true) : vBody k n s = l := by
  rcases right_kind h with rfl | rfl | rfl | rfl | rfl
  · unfold decV at hd
    rw [if_pos rfl] at hd
    by_cases h8 : l.length = 8
    · rw [if_pos h8] at hd
      simp only [Option.some.injEq, Prod.mk.injEq] at hd
      have hb := foldB_8 l h8
      unfold vBody upI
      rw [if_pos rfl, ← hd.1]
      have e : ((foldB l : Int) - 9223372036854775808 + 9223372036854775808).toNat = foldB l := by omega
      rw [e]
      exact byW_foldB 8 l h8
    · rw [if_neg h8] at hd; cases hd
  · unfold decV at hd
    rw [if_neg (by decide), if_neg (by decide), if_neg (by decide), if_pos (by decide)] at hd
    obtain ⟨t, ht, e⟩ := Option.map_eq_some_iff.1 hd
    simp only [Prod.mk.injEq] at e
    obtain ⟨rfl, rfl⟩ := e
    unfold vBody
    rw [if_neg (by decide), if_neg (by decide), if_neg (by decide)]
    exact unText_back ht
  · unfold decV at hd
    rw [if_neg (by decide), if_neg (by decide), if_neg (by decide), if_pos (by decide)] at hd
    obtain ⟨t, ht, e⟩ := Option.map_eq_some_iff.1 hd
    simp only [Prod.mk.injEq] at e
    obtain ⟨rfl, rfl⟩ := e
    unfold vBody
    rw [if_neg (by decide), if_neg (by decide), if_neg (by decide)]
    exact unText_back ht
  · unfold decV at hd
    rw [if_neg (by decide), if_neg (by decide), if_pos rfl] at hd
    by_cases h8 : l.length = 1
    · rw [if_pos h8] at hd
      simp only [Option.some.injEq, Prod.mk.injEq] at hd
      obtain ⟨x, rfl⟩ := List.length_eq_one_iff.1 h8
      unfold vBody
      rw [if_neg (by decide), if_neg (by decide), if_pos rfl, ← hd.1]
      simp
    · rw [if_neg h8] at hd; cases hd
  · rw [decV5] at hd
    by_cases h8 : l.length = 8
    · rw [if_pos h8] at hd
      by_cases hr : rightB (unrankI (foldB l)) = true
      · rw [if_pos hr] at hd
        simp only [Option.some.injEq, Prod.mk.injEq] at hd
        have hb := foldB_8 l h8
        rw [vBody5, ← hd.1, rank_unrank (by omega) hb, Int.toNat_natCast]
        exact byW_foldB 8 l h8
      · rw [if_neg hr] at hd; cases hd
    · rw [if_neg h8] at hd; cases hd

def valEnd (k n : Int) (s : List UInt8) : Ending := .returned (.tuple #[.agg #[.int .i64 k, .int .i64 n, .string ⟨s.toArray⟩], .bool true])
def noEnd : Ending := .returned (.tuple #[.agg #[.int .i64 0, .int .i64 0, .string ⟨#[]⟩], .bool false])
/-- A row is some right value's bytes, or is decoded to nothing. -/
theorem vdec_cases (l : List UInt8) : (∃ k n s, inI n ∧ vRight k n s = true ∧ s.length ≤ 32 ∧ vEnc k n s = l ∧ vdecEnd l = valEnd k n s) ∨ vdecEnd l = noEnd := by
  cases l with
  | nil => exact .inr rfl
  | cons x r =>
    have hv : vdecEnd (x :: r) = match decV (x.toNat : Int) r with
      | none => .returned (.tuple #[.agg #[.int .i64 0, .int .i64 0, .string ⟨#[]⟩], .bool false])
      | some (n, s) => if vRight (x.toNat : Int) n s = true then .returned (.tuple #[.agg #[.int .i64 (x.toNat : Int), .int .i64 n, .string ⟨s.toArray⟩], .bool true]) else .returned (.tuple #[.agg #[.int .i64 0, .int .i64 0, .string ⟨#[]⟩], .bool false]) := rfl
    rw [hv]
    cases hd : decV (x.toNat : Int) r with
    | none => exact .inr rfl
    | some p =>
      obtain ⟨n, s⟩ := p
      by_cases hr : vRight (x.toNat : Int) n s = true
      · refine .inl ⟨(x.toNat : Int), n, s, (decV_in hd).1, hr, right_len hr, ?_, if_pos hr⟩
        unfold vEnc
        rw [body_decV hd hr, Int.toNat_natCast]
        simp
      · exact .inr (if_neg hr)
theorem vdec_enc {k n : Int} {s : List UInt8} (i : inI n) (h : vRight k n s = true) : vdecEnd (vEnc k n s) = valEnd k n s := by
  have hk : ((UInt8.ofNat k.toNat).toNat : Int) = k := by
    rcases right_kind h with rfl | rfl | rfl | rfl | rfl <;> rfl
  have hv : vdecEnd (vEnc k n s) = match decV ((UInt8.ofNat k.toNat).toNat : Int) (vBody k n s) with
      | none => .returned (.tuple #[.agg #[.int .i64 0, .int .i64 0, .string ⟨#[]⟩], .bool false])
      | some (n', s') => if vRight ((UInt8.ofNat k.toNat).toNat : Int) n' s' = true then .returned (.tuple #[.agg #[.int .i64 ((UInt8.ofNat k.toNat).toNat : Int), .int .i64 n', .string ⟨s'.toArray⟩], .bool true]) else .returned (.tuple #[.agg #[.int .i64 0, .int .i64 0, .string ⟨#[]⟩], .bool false]) := rfl
  rw [hv, hk, decV_body i h]
  exact if_pos h
/-- No right value's bytes begin with another's. -/
theorem enc_prefix {k1 n1 : Int} {s1 : List UInt8} {k2 n2 : Int} {s2 : List UInt8} (i1 : inI n1) (i2 : inI n2) (h1 : vRight k1 n1 s1 = true) (h2 : vRight k2 n2 s2 = true) (h : lexC (vEnc k1 n1 s1) (vEnc k2 n2 s2) = 0) : k1 = k2 ∧ n1 = n2 ∧ s1 = s2 := by
  rw [enc_lex i1 i2 h1 h2] at h
  exact (vOrd_one i1 i2 h1 h2).1 h
theorem lexC_prefix : ∀ (l m : List UInt8), lexC l (l ++ m) = 0 ∧ lexC (l ++ m) l = 0
  | [], m => ⟨rfl, by cases m <;> rfl⟩
  | a :: l, m => by
    obtain ⟨h1, h2⟩ := lexC_prefix l m
    constructor
    · show lexC (a :: l) (a :: (l ++ m)) = 0
      rw [lexC, if_neg (by omega), if_neg (by omega)]; exact h1
    · show lexC (a :: (l ++ m)) (a :: l) = 0
      rw [lexC, if_neg (by omega), if_neg (by omega)]; exact h2
theorem vdec_cut {k n : Int} {s : List UInt8} (i : inI n) (h : vRight k n s = true) (c : Nat) (hc : c < (vEnc k n s).length) : vdecEnd ((vEnc k n s).take c) = noEnd := by
  rcases vdec_cases ((vEnc k n s).take c) with ⟨k', n', s', i', h', _, he, _⟩ | h'
  · exfalso
    have e : lexC (vEnc k' n' s') (vEnc k n s) = 0 := by
      have := (lexC_prefix ((vEnc k n s).take c) ((vEnc k n s).drop c)).1
      rwa [List.take_append_drop, ← he] at this
    obtain ⟨rfl, rfl, rfl⟩ := enc_prefix i' i h' h e
    have := congrArg List.length he
    rw [List.length_take] at this
    omega
  · exact h'
theorem vdec_more {k n : Int} {s : List UInt8} (i : inI n) (h : vRight k n s = true) (x : UInt8) : vdecEnd (vEnc k n s ++ [x]) = noEnd := by
  rcases vdec_cases (vEnc k n s ++ [x]) with ⟨k', n', s', i', h', _, he, _⟩ | h'
  · exfalso
    have e : lexC (vEnc k' n' s') (vEnc k n s) = 0 := by
      rw [he]; exact (lexC_prefix (vEnc k n s) [x]).2
    obtain ⟨rfl, rfl, rfl⟩ := enc_prefix i' i h' h e
    have := congrArg List.length he
    simp at this
  · exact h'

end Go.Proofs.YtfcnobcpnhfgmaaDoor
