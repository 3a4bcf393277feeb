/- Several texts in one: VM WD WE VLa. Conditions: as each theorem names them. -/
import Derived.Test.YtpjkhholpbfbpaaDoorMB
import Derived.Lib.ValidLaws
import Derived.Lib.Bytealg
import Derived.Test.YtpjkhholpbfbpaaDoorFK
import Derived.Lib.SmallJoins
import Derived.Shelf.Unicode.DecodeSlow
/- Plain mathematics of values of five kinds: which are right, their order, their bytes. No program in it. -/
namespace Go.Proofs.YtpjkhholpbfbpaaDoor
open Go.RowKit

/-- Is the value (kind k, number n, bytes s) right? -/
def vRight (k n : Int) (s : List UInt8) : Bool :=
  if k = 1 then s.isEmpty else if k = 2 then n == 0 && decide (s.length ≤ 32) else if k = 3 then n == 0 && decide (s.length ≤ 32) && Lib.validD s
  else if k = 4 then s.isEmpty && (n == 0 || n == 1) else if k = 5 then s.isEmpty && rightB n else false
def vNum (k a b : Int) : Int := if k = 5 then ordI a b else cmpI a b
def vOrd (k1 n1 : Int) (s1 : List UInt8) (k2 n2 : Int) (s2 : List UInt8) : Int :=
  if k1 = k2 then (if vNum k1 n1 n2 = 0 then Lib.compareBytes s1 s2 else vNum k1 n1 n2) else cmpI k1 k2

/-- Bytes in which each 0 is 0, 255. -/
def esc : List UInt8 → List UInt8
  | [] => []
  | c :: l => if c = 0 then 0 :: 255 :: esc l else c :: esc l
theorem esc_app (a b : List UInt8) : esc (a ++ b) = esc a ++ esc b := by
  induction a with
  | nil => rfl
  | cons c l ih => simp only [List.cons_append, esc, ih]; split <;> rfl
theorem esc_len (l : List UInt8) : (esc l).length ≤ 2 * l.length := by
  induction l with
  | nil => simp [esc]
  | cons c l ih => simp only [esc]; split <;> simp <;> omega

/-- The number of an int's eight bytes. -/
def upI (n : Int) : Nat := (n + 9223372036854775808).toNat
theorem upI_lt {n : Int} (h : inI n) : upI n < 18446744073709551616 := by unfold upI inI at *; omega
/-- The bytes behind the kind. -/
def vBody (k n : Int) (s : List UInt8) : List UInt8 :=
  if k = 1 then byW 8 (upI n) else if k = 5 then byW 8 (rankI n).toNat else if k = 4 then [UInt8.ofNat n.toNat] else esc s ++ [0, 1]
def vEnc (k n : Int) (s : List UInt8) : List UInt8 := UInt8.ofNat k.toNat :: vBody k n s

theorem right_kind {k n : Int} {s : List UInt8} (h : vRight k n s = true) : k = 1 ∨ k = 2 ∨ k = 3 ∨ k = 4 ∨ k = 5 := by
  unfold vRight at h
  by_cases h1 : k = 1; · omega
  by_cases h2 : k = 2; · omega
  by_cases h3 : k = 3; · omega
  by_cases h4 : k = 4; · omega
  by_cases h5 : k = 5; · omega
  rw [if_neg h1, if_neg h2, if_neg h3, if_neg h4, if_neg h5] at h
  cases h
theorem right_len {k n : Int} {s : List UInt8} (h : vRight k n s = true) : s.length ≤ 32 := by
  rcases right_kind h with rfl | rfl | rfl | rfl | rfl <;> simp [vRight] at h <;> simp [h] <;> omega

end Go.Proofs.YtpjkhholpbfbpaaDoor

/- Plain mathematics of the order of values: it is one, and level values that are right are one. No program in it. Conditions: the numbers are of 64 bits. -/
namespace Go.Proofs.YtpjkhholpbfbpaaDoor
open Go.RowKit

theorem cmpB_self : ∀ l : List UInt8, Lib.compareBytes l l = 0
  | [] => rfl
  | a :: l => by unfold Lib.compareBytes; simp [cmpB_self l]
theorem cmpB_neg : ∀ l m : List UInt8, Lib.compareBytes l m = -Lib.compareBytes m l
  | [], [] => rfl
  | [], _ :: _ => rfl
  | _ :: _, [] => rfl
  | a :: l, b :: m => by
    unfold Lib.compareBytes
    have ih := cmpB_neg l m
    by_cases h1 : a < b
    · have h2 : ¬ b < a := fun h => by rw [UInt8.lt_iff_toNat_lt] at h h1; omega
      rw [if_pos h1, if_neg h2, if_pos h1]
    · rw [if_neg h1]
      by_cases h2 : b < a
      · rw [if_pos h2, if_pos h2]; rfl
      · rw [if_neg h2, if_neg h2, if_neg h1]; exact ih
theorem cmpB_zero : ∀ l m : List UInt8, Lib.compareBytes l m = 0 → l = m
  | [], [], _ => rfl
  | [], _ :: _, h => by cases h
  | _ :: _, [], h => by cases h
  | a :: l, b :: m, h => by
    unfold Lib.compareBytes at h
    by_cases h1 : a < b
    · rw [if_pos h1] at h; cases h
    · rw [if_neg h1] at h
      by_cases h2 : b < a
      · rw [if_pos h2] at h; cases h
      · rw [if_neg h2] at h
        have e : a = b := UInt8.toNat_inj.1 (by rw [UInt8.lt_iff_toNat_lt] at h1 h2; omega)
        rw [e, cmpB_zero l m h]
theorem cmpB_trans : ∀ l m n : List UInt8, Lib.compareBytes l m ≤ 0 → Lib.compareBytes m n ≤ 0 → Lib.compareBytes l n ≤ 0
  | [], _, [], _, _ => by decide
  | [], _, _ :: _, _, _ => by unfold Lib.compareBytes; decide
  | a :: l, [], n, h, _ => by unfold Lib.compareBytes at h; omega
  | a :: l, b :: m, [], _, h => by unfold Lib.compareBytes at h; omega
  | a :: l, b :: m, c :: n, h1, h2 => by
    unfold Lib.compareBytes at h1 h2 ⊢
    have ih := cmpB_trans l m n
    simp only [UInt8.lt_iff_toNat_lt] at *
    by_cases x1 : a.toNat < b.toNat
    · by_cases y1 : b.toNat < c.toNat
      · rw [if_pos (by omega)]; decide
      · rw [if_neg y1] at h2
        by_cases y2 : c.toNat < b.toNat
        · rw [if_pos y2] at h2; omega
        · rw [if_pos (by omega)]; decide
    · rw [if_neg x1] at h1
      by_cases x2 : b.toNat < a.toNat
      · rw [if_pos x2] at h1; omega
      · rw [if_neg x2] at h1
        by_cases y1 : b.toNat < c.toNat
        · rw [if_pos (by omega)]; decide
        · rw [if_neg y1] at h2
          by_cases y2 : c.toNat < b.toNat
          · rw [if_pos y2] at h2; omega
          · rw [if_neg y2] at h2
            rw [if_neg (by omega), if_neg (by omega)]
            exact ih h1 h2

/-- A value's number in the order: of a float its place, else itself. -/
def vKey (k n : Int) : Int := if k = 5 then rankI (canonI n) else n
theorem vNum_key (k a b : Int) : vNum k a b = cmpI (vKey k a) (vKey k b) := by
  unfold vNum vKey ordI
  by_cases h : k = 5
  · rw [if_pos h, if_pos h, if_pos h]
  · rw [if_neg h, if_neg h, if_neg h]

theorem vOrd_self (k n : Int) (s : List UInt8) : vOrd k n s k n s = 0 := by
  unfold vOrd
  rw [if_pos rfl, vNum_key, cmpI_self, if_pos rfl, cmpB_self]
theorem vOrd_neg (k1 n1 : Int) (s1 : List UInt8) (k2 n2 : Int) (s2 : List UInt8) : vOrd k1 n1 s1 k2 n2 s2 = -vOrd k2 n2 s2 k1 n1 s1 := by
  unfold vOrd
  by_cases h : k1 = k2
  · subst h
    rw [if_pos rfl, if_pos rfl, vNum_key, vNum_key, cmpI_neg (vKey k1 n2) (vKey k1 n1)]
    by_cases h0 : cmpI (vKey k1 n1) (vKey k1 n2) = 0
    · rw [if_pos h0, if_pos (by omega)]; exact cmpB_neg s1 s2
    · rw [if_neg h0, if_neg (by omega)]; omega
  · rw [if_neg h, if_neg (fun e => h e.symm)]
    exact cmpI_neg k1 k2
theorem cmpI_le {a b : Int} : cmpI a b ≤ 0 ↔ a ≤ b := by unfold cmpI; split <;> (try split) <;> omega
theorem cmpI_z {a b : Int} : cmpI a b = 0 ↔ a = b := by unfold cmpI; split <;> (try split) <;> omega
theorem vOrd_le (k1 n1 : Int) (s1 : List UInt8) (k2 n2 : Int) (s2 : List UInt8) : vOrd k1 n1 s1 k2 n2 s2 ≤ 0 ↔ k1 < k2 ∨ (k1 = k2 ∧ (vKey k1 n1 < vKey k2 n2 ∨ (vKey k1 n1 = vKey k2 n2 ∧ Lib.compareBytes s1 s2 ≤ 0))) := by
  unfold vOrd
  by_cases h : k1 = k2
  · subst h
    rw [if_pos rfl, vNum_key]
    by_cases h0 : cmpI (vKey k1 n1) (vKey k1 n2) = 0
    · rw [if_pos h0]
      have := cmpI_z.1 h0
      omega
    · rw [if_neg h0, cmpI_le]
      have : ¬ vKey k1 n1 = vKey k1 n2 := fun e => h0 (cmpI_z.2 e)
      omega
  · rw [if_neg h, cmpI_le]
    omega
theorem vOrd_trans {k1 n1 : Int} {s1 : List UInt8} {k2 n2 : Int} {s2 : List UInt8} {k3 n3 : Int} {s3 : List UInt8} (h1 : vOrd k1 n1 s1 k2 n2 s2 ≤ 0) (h2 : vOrd k2 n2 s2 k3 n3 s3 ≤ 0) : vOrd k1 n1 s1 k3 n3 s3 ≤ 0 := by
  rw [vOrd_le] at *
  have := cmpB_trans s1 s2 s3
  rcases h1 with h1 | ⟨e1, h1 | ⟨f1, h1⟩⟩ <;> rcases h2 with h2 | ⟨e2, h2 | ⟨f2, h2⟩⟩
  · exact Or.inl (by omega)
  · exact Or.inl (by omega)
  · exact Or.inl (by omega)
  · exact Or.inl (by omega)
  · exact Or.inr ⟨by omega, Or.inl (by omega)⟩
  · exact Or.inr ⟨by omega, Or.inl (by omega)⟩
  · exact Or.inl (by omega)
  · exact Or.inr ⟨by omega, Or.inl (by omega)⟩
  · exact Or.inr ⟨by omega, Or.inr ⟨by omega, this h1 h2⟩⟩

theorem vKey_one {k n1 n2 : Int} {s1 s2 : List UInt8} (i1 : inI n1) (i2 : inI n2) (h1 : vRight k n1 s1 = true) (h2 : vRight k n2 s2 = true) (h : vKey k n1 = vKey k n2) : n1 = n2 := by
  unfold vKey at h
  by_cases h5 : k = 5
  · subst h5
    rw [if_pos rfl, if_pos rfl] at h
    have r1 : rightB n1 = true := by simp [vRight] at h1; exact h1.2
    have r2 : rightB n2 = true := by simp [vRight] at h2; exact h2.2
    rw [right_canon r1, right_canon r2] at h
    have := congrArg unrankI h
    rwa [unrank_rank i1, unrank_rank i2] at this
  · rwa [if_neg h5, if_neg h5] at h
/-- Right values are level just if they are one. -/
theorem vOrd_one {k1 n1 : Int} {s1 : List UInt8} {k2 n2 : Int} {s2 : List UInt8} (i1 : inI n1) (i2 : inI n2) (h1 : vRight k1 n1 s1 = true) (h2 : vRight k2 n2 s2 = true) : vOrd k1 n1 s1 k2 n2 s2 = 0 ↔ k1 = k2 ∧ n1 = n2 ∧ s1 = s2 := by
  constructor
  · intro h
    unfold vOrd at h
    by_cases hk : k1 = k2
    · subst hk
      rw [if_pos rfl, vNum_key] at h
      by_cases h0 : cmpI (vKey k1 n1) (vKey k1 n2) = 0
      · rw [if_pos h0] at h
        exact ⟨rfl, vKey_one i1 i2 h1 h2 (cmpI_z.1 h0), cmpB_zero _ _ h⟩
      · rw [if_neg h0] at h
        exact absurd h h0
    · rw [if_neg hk] at h
      exact absurd (cmpI_z.1 h) hk
  · rintro ⟨rfl, rfl, rfl⟩
    exact vOrd_self _ _ _

theorem enc_two {k n : Int} {s : List UInt8} (h : vRight k n s = true) : 2 ≤ (vEnc k n s).length := by
  unfold vEnc vBody
  rcases right_kind h with rfl | rfl | rfl | rfl | rfl <;> simp [byW_len]

end Go.Proofs.YtpjkhholpbfbpaaDoor

/- Plain mathematics: the bytes of right values are in order as they are. No program in it. Conditions: the numbers are of 64 bits. -/
namespace Go.Proofs.YtpjkhholpbfbpaaDoor
open Go.RowKit

theorem lexC_self : ∀ l : List UInt8, lexC l l = 0
  | [] => rfl
  | a :: l => by rw [lexC, if_neg (by omega), if_neg (by omega)]; exact lexC_self l
/-- Escaped texts, and what stands behind their ends. -/
theorem esc_lex : ∀ (s t u v : List UInt8), lexC (esc s ++ (0 :: 1 :: u)) (esc t ++ (0 :: 1 :: v)) = if Lib.compareBytes s t = 0 then lexC u v else Lib.compareBytes s t
  | [], [], u, v => by
    rw [if_pos (show Lib.compareBytes [] [] = 0 from rfl)]
    show lexC (0 :: 1 :: u) (0 :: 1 :: v) = _
    rw [lexC, if_neg (by decide), if_neg (by decide), lexC, if_neg (by decide), if_neg (by decide)]
  | [], d :: t, u, v => by
    have e : Lib.compareBytes [] (d :: t) = -1 := rfl
    rw [e, if_neg (by decide)]
    show lexC (0 :: 1 :: u) _ = _
    unfold esc
    by_cases h : d = 0
    · rw [if_pos h]
      show lexC (0 :: 1 :: u) (0 :: 255 :: _) = _
      rw [lexC, if_neg (by decide), if_neg (by decide), lexC, if_pos (by decide)]
    · rw [if_neg h]
      show lexC (0 :: 1 :: u) (d :: _) = _
      rw [lexC, if_pos ?_]
      have : ¬ d.toNat = 0 := fun e => h (UInt8.toNat_inj.1 e)
      show 0 < _
      omega
  | c :: s, [], u, v => by
    have e : Lib.compareBytes (c :: s) [] = 1 := rfl
    rw [e, if_neg (by decide)]
    show lexC _ (0 :: 1 :: v) = _
    unfold esc
    by_cases h : c = 0
    · rw [if_pos h]
      show lexC (0 :: 255 :: _) (0 :: 1 :: v) = _
      rw [lexC, if_neg (by decide), if_neg (by decide), lexC, if_neg (by decide), if_pos (by decide)]
    · rw [if_neg h]
      show lexC (c :: _) (0 :: 1 :: v) = _
      have : ¬ c.toNat = 0 := fun e => h (UInt8.toNat_inj.1 e)
      have z : (0 : UInt8).toNat = 0 := rfl
      rw [lexC, z, if_neg (by omega), if_pos (by omega)]
  | c :: s, d :: t, u, v => by
    have ih := esc_lex s t u v
    unfold Lib.compareBytes
    simp only [UInt8.lt_iff_toNat_lt]
    by_cases h1 : c.toNat < d.toNat
    · rw [if_pos h1, if_neg (by decide)]
      have hd : ¬ d = 0 := fun e => by rw [e] at h1; exact absurd h1 (by simp)
      unfold esc
      rw [if_neg hd]
      by_cases hc : c = 0
      · rw [if_pos hc]
        show lexC (0 :: _) (d :: _) = _
        rw [hc] at h1
        rw [lexC, if_pos h1]
      · rw [if_neg hc]
        show lexC (c :: _) (d :: _) = _
        rw [lexC, if_pos h1]
    · rw [if_neg h1]
      by_cases h2 : d.toNat < c.toNat
      · rw [if_pos h2, if_neg (by decide)]
        have hc : ¬ c = 0 := fun e => by rw [e] at h2; exact absurd h2 (by simp)
        unfold esc
        rw [if_neg hc]
        by_cases hd : d = 0
        · rw [if_pos hd]
          show lexC (c :: _) (0 :: _) = _
          rw [hd] at h1 h2
          rw [lexC, if_neg h1, if_pos h2]
        · rw [if_neg hd]
          show lexC (c :: _) (d :: _) = _
          rw [lexC, if_neg h1, if_pos h2]
      · rw [if_neg h2]
        have e : c = d := UInt8.toNat_inj.1 (by omega)
        subst e
        rw [← ih]
        rw [show esc (c :: s) = if c = 0 then 0 :: 255 :: esc s else c :: esc s from rfl, show esc (c :: t) = if c = 0 then 0 :: 255 :: esc t else c :: esc t from rfl]
        by_cases hc : c = 0
        · rw [if_pos hc, if_pos hc]
          show lexC (0 :: 255 :: (esc s ++ _)) (0 :: 255 :: (esc t ++ _)) = _
          rw [lexC, if_neg (by omega), if_neg (by omega), lexC, if_neg (by omega), if_neg (by omega)]
        · rw [if_neg hc, if_neg hc]
          show lexC (c :: (esc s ++ _)) (c :: (esc t ++ _)) = _
          rw [lexC, if_neg h1, if_neg h2]

theorem lexC_byW {a b : Nat} (ha : a < 18446744073709551616) (hb : b < 18446744073709551616) : lexC (byW 8 a) (byW 8 b) = cmpI a b := by
  have p : (256 : Nat) ^ 8 = 18446744073709551616 := by decide
  rw [lexC_fold _ _ (by rw [byW_len, byW_len]), foldB_byW 8 _ (by omega), foldB_byW 8 _ (by omega)]

theorem cmpI_up {a b : Int} (ha : inI a) (hb : inI b) : cmpI (upI a) (upI b) = cmpI a b := by
  unfold inI at *
  unfold cmpI upI
  rw [Int.toNat_of_nonneg (by omega), Int.toNat_of_nonneg (by omega)]
  by_cases h1 : a < b
  · rw [if_pos (by omega), if_pos h1]
  · rw [if_neg (by omega), if_neg h1]
    by_cases h2 : b < a
    · rw [if_pos (by omega), if_pos h2]
    · rw [if_neg (by omega), if_neg h2]

theorem cmpI_or (c : Int) : (if c = 0 then (0 : Int) else c) = c := by split <;> omega
/-- The bytes of right values are in order as they are. -/
theorem enc_lex {k1 n1 : Int} {s1 : List UInt8} {k2 n2 : Int} {s2 : List UInt8} (i1 : inI n1) (i2 : inI n2) (h1 : vRight k1 n1 s1 = true) (h2 : vRight k2 n2 s2 = true) : lexC (vEnc k1 n1 s1) (vEnc k2 n2 s2) = vOrd k1 n1 s1 k2 n2 s2 := by
  unfold vEnc vOrd
  rw [lexC]
  by_cases hk : k1 = k2
  · subst hk
    rw [if_neg (by omega), if_neg (by omega), if_pos rfl]
    rcases right_kind h1 with rfl | rfl | rfl | rfl | rfl
    · simp only [vRight] at h1 h2
      simp at h1 h2
      subst h1 h2
      show lexC (byW 8 (upI n1)) (byW 8 (upI n2)) = if cmpI n1 n2 = 0 then Lib.compareBytes [] [] else cmpI n1 n2
      rw [lexC_byW (upI_lt i1) (upI_lt i2), cmpI_up i1 i2]
      exact (cmpI_or _).symm
    · simp only [vRight] at h1 h2
      simp at h1 h2
      obtain ⟨rfl, _⟩ := h1
      obtain ⟨rfl, _⟩ := h2
      show lexC (esc s1 ++ [0, 1]) (esc s2 ++ [0, 1]) = if cmpI 0 0 = 0 then Lib.compareBytes s1 s2 else cmpI 0 0
      rw [if_pos (by decide), esc_lex, lexC_self]
      split <;> simp_all
    · simp only [vRight] at h1 h2
      simp at h1 h2
      obtain ⟨⟨rfl, _⟩, _⟩ := h1
      obtain ⟨⟨rfl, _⟩, _⟩ := h2
      show lexC (esc s1 ++ [0, 1]) (esc s2 ++ [0, 1]) = if cmpI 0 0 = 0 then Lib.compareBytes s1 s2 else cmpI 0 0
      rw [if_pos (by decide), esc_lex, lexC_self]
      split <;> simp_all
    · simp only [vRight] at h1 h2
      simp at h1 h2
      obtain ⟨rfl, h1⟩ := h1
      obtain ⟨rfl, h2⟩ := h2
      rcases h1 with rfl | rfl <;> rcases h2 with rfl | rfl <;> decide
    · simp only [vRight] at h1 h2
      simp at h1 h2
      obtain ⟨rfl, h1⟩ := h1
      obtain ⟨rfl, h2⟩ := h2
      show lexC (byW 8 (rankI n1).toNat) (byW 8 (rankI n2).toNat) = if ordI n1 n2 = 0 then Lib.compareBytes [] [] else ordI n1 n2
      rw [lexC_order i1 i2 h1 h2]
      exact (cmpI_or _).symm
  · rw [if_neg hk]
    have hb : ∀ {k n : Int} {s : List UInt8}, vRight k n s = true → 1 ≤ k ∧ k ≤ 5 := fun h => by rcases right_kind h with h | h | h | h | h <;> omega
    have b1 := hb h1
    have b2 := hb h2
    rw [UInt8.toNat_ofNat', UInt8.toNat_ofNat']
    unfold cmpI
    by_cases h : k1 < k2
    · rw [if_pos (by omega), if_pos h]
    · rw [if_neg (by omega), if_pos (by omega), if_neg h, if_pos (by omega)]

theorem enc_small {k n : Int} {s : List UInt8} (h : vRight k n s = true) : (vEnc k n s).length ≤ 100 := by
  have h1 := right_len h
  have h7 := esc_len s
  unfold vEnc vBody
  rcases right_kind h with rfl | rfl | rfl | rfl | rfl <;> simp [byW_len] <;> omega

/-- What the loop over two rows of bytes knows at place i: what it has seen is level, the rest is in the order. -/
def Lev (x y : List UInt8) (o : Int) (i : Nat) : Prop := lexC (x.drop i) (y.drop i) = o
theorem Lev.start {k1 n1 : Int} {s1 : List UInt8} {k2 n2 : Int} {s2 : List UInt8} (i1 : inI n1) (i2 : inI n2) (h1 : vRight k1 n1 s1 = true) (h2 : vRight k2 n2 s2 = true) : Lev (vEnc k1 n1 s1) (vEnc k2 n2 s2) (vOrd k1 n1 s1 k2 n2 s2) 0 := enc_lex i1 i2 h1 h2
theorem Lev.lt {x y : List UInt8} {o : Int} {i : Nat} (h : Lev x y o i) (hx : i < x.length) (hy : i < y.length) (hl : (x.getD i 0).toNat < (y.getD i 0).toNat) : o = -1 := by
  unfold Lev at h; rw [lexC_drop _ _ _ hx hy, if_pos hl] at h; exact h.symm
theorem Lev.gt {x y : List UInt8} {o : Int} {i : Nat} (h : Lev x y o i) (hx : i < x.length) (hy : i < y.length) (hl : (y.getD i 0).toNat < (x.getD i 0).toNat) : o = 1 := by
  unfold Lev at h; rw [lexC_drop _ _ _ hx hy, if_neg (by omega), if_pos hl] at h; exact h.symm
theorem Lev.eq {x y : List UInt8} {o : Int} {i : Nat} (h : Lev x y o i) (hx : i < x.length) (hy : i < y.length) (hl : (x.getD i 0).toNat = (y.getD i 0).toNat) : Lev x y o (i + 1) := by
  unfold Lev at h; rw [lexC_drop _ _ _ hx hy, if_neg (by omega), if_neg (by omega)] at h; exact h
theorem lexC_end {x y : List UInt8} (h : x = [] ∨ y = []) : lexC x y = 0 := by
  rcases h with rfl | rfl
  · rfl
  · cases x <;> rfl
theorem Lev.stop {x y : List UInt8} {o : Int} {i : Nat} (h : Lev x y o i) (he : i = x.length ∨ i = y.length) : o = 0 := by
  unfold Lev at h
  rw [lexC_end (by rcases he with rfl | rfl <;> simp)] at h
  exact h.symm

end Go.Proofs.YtpjkhholpbfbpaaDoor

/- What the library's tables of utf8 hold when a law begins, in one word, and that it lasts while the call only makes memory of its own. -/
namespace Go.Proofs.YtpjkhholpbfbpaaDoor
open Go.RowKit

/-- The library's variables hold what their initialisers lay. -/
structure LaidU (w : World) : Prop where
  utf : Lib.Utf8Tabs 2 3 w

theorem LaidU.below {w W : World} (h : LaidU w) (hW : Below w.heap.size w W) : LaidU W where
  utf := ⟨fun c hc => by have := h.utf.1 c hc; rw [hW.cell (cell_lt this)]; exact this,
    fun i hi => ⟨by have := (h.utf.2 i hi).1; rw [hW.cell (cell_lt this)]; exact this, by have := (h.utf.2 i hi).2; rw [hW.cell (cell_lt this)]; exact this⟩⟩

end Go.Proofs.YtpjkhholpbfbpaaDoor
