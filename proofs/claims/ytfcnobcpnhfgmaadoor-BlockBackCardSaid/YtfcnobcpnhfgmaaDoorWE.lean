/- Plain mathematics: the bytes of right values are in order as they are. No program in it. Conditions: the numbers are of 64 bits. -/
import Derived.Test.YtfcnobcpnhfgmaaDoorWD
namespace Go.Proofs.YtfcnobcpnhfgmaaDoor
open Go.RowKit

theorem lexC_self : ∀ l : List UInt8, lexC l l = 0
  | [] => rfl
  | a :: l => by rw [lexC, if_neg (by omega), if_neg (by omega)]; exact lexC_self l
/-- Escaped texts, and what stands behind their ends. -/
theorem esc_lex : ∀ (s t u v : List UInt8), lexC (esc s ++ (0 :: 1 :: u)) (esc t ++ (0 :: 1 :: v)) = if Lib.compareBytes s t = 0 then lexC u v else Lib.compareBytes s t
  | [], [], u, v => by
    rw [if_pos (show Lib.compareBytes [] [] = 0 from rfl)]
    show lexC (0 :: 1 :: u) (0 :: 1 :: v) = _
    rw [lexC, if_neg (by decide), if_neg (by decide), lexC, if_neg (by decide), if_neg (by decide)]
  | [], d :: t, u, v => by
    have e : Lib.compareBytes [] (d :: t) = -1 := rfl
    rw [e, if_neg (by decide)]
    show lexC (0 :: 1 :: u) _ = _
    unfold esc
    by_cases h : d = 0
    · rw [if_pos h]
      show lexC (0 :: 1 :: u) (0 :: 255 :: _) = _
      rw [lexC, if_neg (by decide), if_neg (by decide), lexC, if_pos (by decide)]
    · rw [if_neg h]
      show lexC (0 :: 1 :: u) (d :: _) = _
      rw [lexC, if_pos ?_]
      have : ¬ d.toNat = 0 := fun e => h (UInt8.toNat_inj.1 e)
      show 0 < _
      omega
  | c :: s, [], u, v => by
    have e : Lib.compareBytes (c :: s) [] = 1 := rfl
    rw [e, if_neg (by decide)]
    show lexC _ (0 :: 1 :: v) = _
    unfold esc
    by_cases h : c = 0
    · rw [if_pos h]
      show lexC (0 :: 255 :: _) (0 :: 1 :: v) = _
      rw [lexC, if_neg (by decide), if_neg (by decide), lexC, if_neg (by decide), if_pos (by decide)]
    · rw [if_neg h]
      show lexC (c :: _) (0 :: 1 :: v) = _
      have : ¬ c.toNat = 0 := fun e => h (UInt8.toNat_inj.1 e)
      have z : (0 : UInt8).toNat = 0 := rfl
      rw [lexC, z, if_neg (by omega), if_pos (by omega)]
  | c :: s, d :: t, u, v => by
    have ih := esc_lex s t u v
    unfold Lib.compareBytes
    simp only [UInt8.lt_iff_toNat_lt]
    by_cases h1 : c.toNat < d.toNat
    · rw [if_pos h1, if_neg (by decide)]
      have hd : ¬ d = 0 := fun e => by rw [e] at h1; exact absurd h1 (by simp)
      unfold esc
      rw [if_neg hd]
      by_cases hc : c = 0
      · rw [if_pos hc]
        show lexC (0 :: _) (d :: _) = _
        rw [hc] at h1
        rw [lexC, if_pos h1]
      · rw [if_neg hc]
        show lexC (c :: _) (d :: _) = _
        rw [lexC, if_pos h1]
    · rw [if_neg h1]
      by_cases h2 : d.toNat < c.toNat
      · rw [if_pos h2, if_neg (by decide)]
        have hc : ¬ c = 0 := fun e => by rw [e] at h2; exact absurd h2 (by simp)
        unfold esc
        rw [if_neg hc]
        by_cases hd : d = 0
        · rw [if_pos hd]
          show lexC (c :: _) (0 :: _) = _
          rw [hd] at h1 h2
          rw [lexC, if_neg h1, if_pos h2]
        · rw [if_neg hd]
          show lexC (c :: _) (d :: _) = _
          rw [lexC, if_neg h1, if_pos h2]
      · rw [if_neg h2]
        have e : c = d := UInt8.toNat_inj.1 (by omega)
        subst e
        rw [← ih]
        rw [show esc (c :: s) = if c = 0 then 0 :: 255 :: esc s else c :: esc s from rfl, show esc (c :: t) = if c = 0 then 0 :: 255 :: esc t else c :: esc t from rfl]
        by_cases hc : c = 0
        · rw [if_pos hc, if_pos hc]
          show lexC (0 :: 255 :: (esc s ++ _)) (0 :: 255 :: (esc t ++ _)) = _
          rw [lexC, if_neg (by omega), if_neg (by omega), lexC, if_neg (by omega), if_neg (by omega)]
        · rw [if_neg hc, if_neg hc]
          show lexC (c :: (esc s ++ _)) (c :: (esc t ++ _)) = _
          rw [lexC, if_neg h1, if_neg h2]

theorem lexC_byW {a b : Nat} (ha : a < 18446744073709551616) (hb : b < 18446744073709551616) : lexC (byW 8 a) (byW 8 b) = cmpI a b := by
  have p : (256 : Nat) ^ 8 = 18446744073709551616 := by decide
  rw [lexC_fold _ _ (by rw [byW_len, byW_len]), foldB_byW 8 _ (by omega), foldB_byW 8 _ (by omega)]

theorem cmpI_up {a b : Int} (ha : inI a) (hb : inI b) : cmpI (upI a) (upI b) = cmpI a b := by
  unfold inI at *
  unfold cmpI upI
  rw [Int.toNat_of_nonneg (by omega), Int.toNat_of_nonneg (by omega)]
  by_cases h1 : a < b
  · rw [if_pos (by omega), if_pos h1]
  · rw [if_neg (by omega), if_neg h1]
    by_cases h2 : b < a
    · rw [if_pos (by omega), if_pos h2]
    · rw [if_neg (by omega), if_neg h2]

theorem cmpI_or (c : Int) : (if c = 0 then (0 : Int) else c) = c := by split <;> omega
/-- The bytes of right values are in order as they are. -/
theorem enc_lex {k1 n1 : Int} {s1 : List UInt8} {k2 n2 : Int} {s2 : List UInt8} (i1 : inI n1) (i2 : inI n2) (h1 : vRight k1 n1 s1 = true) (h2 : vRight k2 n2 s2 = true) : lexC (vEnc k1 n1 s1) (vEnc k2 n2 s2) = vOrd k1 n1 s1 k2 n2 s2 := by
  unfold vEnc vOrd
  rw [lexC]
  by_cases hk : k1 = k2
  · subst hk
    rw [if_neg (by omega), if_neg (by omega), if_pos rfl]
    rcases right_kind h1 with rfl | rfl | rfl | rfl | rfl
    · simp only [vRight] at h1 h2
      simp at h1 h2
      subst h1 h2
      show lexC (byW 8 (upI n1)) (byW 8 (upI n2)) = if cmpI n1 n2 = 0 then Lib.compareBytes [] [] else cmpI n1 n2
      rw [lexC_byW (upI_lt i1) (upI_lt i2), cmpI_up i1 i2]
      exact (cmpI_or _).symm
    · simp only [vRight] at h1 h2
      simp at h1 h2
      obtain ⟨rfl, _⟩ := h1
      obtain ⟨rfl, _⟩ := h2
      show lexC (esc s1 ++ [0, 1]) (esc s2 ++ [0, 1]) = if cmpI 0 0 = 0 then Lib.compareBytes s1 s2 else cmpI 0 0
      rw [if_pos (by decide), esc_lex, lexC_self]
      split <;> simp_all
    · simp only [vRight] at h1 h2
      simp at h1 h2
      obtain ⟨⟨rfl, _⟩, _⟩ := h1
      obtain ⟨⟨rfl, _⟩, _⟩ := h2
      show lexC (esc s1 ++ [0, 1]) (esc s2 ++ [0, 1]) = if cmpI 0 0 = 0 then Lib.compareBytes s1 s2 else cmpI 0 0
      rw [if_pos (by decide), esc_lex, lexC_self]
      split <;> simp_all
    · simp only [vRight] at h1 h2
      simp at h1 h2
      obtain ⟨rfl, h1⟩ := h1
      obtain ⟨rfl, h2⟩ := h2
      rcases h1 with rfl | rfl <;> rcases h2 with rfl | rfl <;> decide
    · simp only [vRight] at h1 h2
      simp at h1 h2
      obtain ⟨rfl, h1⟩ := h1
      obtain ⟨rfl, h2⟩ := h2
      show lexC (byW 8 (rankI n1).toNat) (byW 8 (rankI n2).toNat) = if ordI n1 n2 = 0 then Lib.compareBytes [] [] else ordI n1 n2
      rw [lexC_order i1 i2 h1 h2]
      exact (cmpI_or _).symm
  · rw [if_neg hk]
    have hb : ∀ {k n : Int} {s : List UInt8}, vRight k n s = true → 1 ≤ k ∧ k ≤ 5 := fun h => by rcases right_kind h with h | h | h | h | h <;> omega
    have b1 := hb h1
    have b2 := hb h2
    rw [UInt8.toNat_ofNat', UInt8.toNat_ofNat']
    unfold cmpI
    by_cases h : k1 < k2
    · rw [if_pos (by omega), if_pos h]
    · rw [if_neg (by omega), if_pos (by omega), if_neg h, if_pos (by omega)]

theorem enc_small {k n : Int} {s : List UInt8} (h : vRight k n s = true) : (vEnc k n s).length ≤ 100 := by
  have h1 := right_len h
  have h7 := esc_len s
  unfold vEnc vBody
  rcases right_kind h with rfl | rfl | rfl | rfl | rfl <;> simp [byW_len] <;> omega

/-- What the loop over two rows of bytes knows at place i: what it has seen is level, the rest is in the order. -/
def Lev (x y : List UInt8) (o : Int) (i : Nat) : Prop := lexC (x.drop i) (y.drop i) = o
theorem Lev.start {k1 n1 : Int} {s1 : List UInt8} {k2 n2 : Int} {s2 : List UInt8} (i1 : inI n1) (i2 : inI n2) (h1 : vRight k1 n1 s1 = true) (h2 : vRight k2 n2 s2 = true) : Lev (vEnc k1 n1 s1) (vEnc k2 n2 s2) (vOrd k1 n1 s1 k2 n2 s2) 0 := enc_lex i1 i2 h1 h2
theorem Lev.lt {x y : List UInt8} {o : Int} {i : Nat} (h : Lev x y o i) (hx : i < x.length) (hy : i < y.length) (hl : (x.getD i 0).toNat < (y.getD i 0).toNat) : o = -1 := by
  unfold Lev at h; rw [lexC_drop _ _ _ hx hy, if_pos hl] at h; exact h.symm
theorem Lev.gt {x y : List UInt8} {o : Int} {i : Nat} (h : Lev x y o i) (hx : i < x.length) (hy : i < y.length) (hl : (y.getD i 0).toNat < (x.getD i 0).toNat) : o = 1 := by
  unfold Lev at h; rw [lexC_drop _ _ _ hx hy, if_neg (by omega), if_pos hl] at h; exact h.symm
theorem Lev.eq {x y : List UInt8} {o : Int} {i : Nat} (h : Lev x y o i) (hx : i < x.length) (hy : i < y.length) (hl : (x.getD i 0).toNat = (y.getD i 0).toNat) : Lev x y o (i + 1) := by
  unfold Lev at h; rw [lexC_drop _ _ _ hx hy, if_neg (by omega), if_neg (by omega)] at h; exact h
theorem lexC_end {x y : List UInt8} (h : x = [] ∨ y = []) : lexC x y = 0 := by
  rcases h with rfl | rfl
  · rfl
  · cases x <;> rfl
theorem Lev.stop {x y : List UInt8} {o : Int} {i : Nat} (h : Lev x y o i) (he : i = x.length ∨ i = y.length) : o = 0 := by
  unfold Lev at h
  rw [lexC_end (by rcases he with rfl | rfl <;> simp)] at h
  exact h.symm

end Go.Proofs.YtfcnobcpnhfgmaaDoor
