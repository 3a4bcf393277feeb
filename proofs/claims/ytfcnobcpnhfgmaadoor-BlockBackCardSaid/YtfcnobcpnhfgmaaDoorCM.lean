/- Plain mathematics of cells: their keys and bytes, in order as the cells are; what of bytes is a text, and whose bytes they are. No program in it. -/
import Derived.Test.YtfcnobcpnhfgmaaDoorWG
import Derived.Test.YtfcnobcpnhfgmaaDoorCE
namespace Go.Proofs.YtfcnobcpnhfgmaaDoor
open Go.RowKit

/-- The time and the kind. -/
def tailM (t k : Int) : List UInt8 := byW 8 (9223372036854775807 - t).toNat ++ [UInt8.ofNat (255 - k).toNat]
/-- The qualifier, or that there is none. -/
def midM (q : List UInt8) (k : Int) : List UInt8 := if k = 4 then [0, 0] else esc q ++ [0, 1]
def keyM (r f q : List UInt8) (t k : Int) : List UInt8 := esc r ++ ([0, 1] ++ (esc f ++ ([0, 1] ++ (midM q k ++ tailM t k))))
def cEnc (r f q : List UInt8) (t k vk vn : Int) (vs : List UInt8) : List UInt8 := keyM r f q t k ++ (if k = 1 then vEnc vk vn vs else [])

theorem tail_len (t k : Int) : (tailM t k).length = 9 := by unfold tailM; rw [List.length_append, byW_len]; rfl
theorem lexC_left : ∀ (p u v : List UInt8), lexC (p ++ u) (p ++ v) = lexC u v
  | [], _, _ => rfl
  | a :: p, u, v => by
    show lexC (a :: (p ++ u)) (a :: (p ++ v)) = _
    rw [lexC, if_neg (by omega), if_neg (by omega)]; exact lexC_left p u v
/-- Two rows of one length, and what stands behind them. -/
theorem lexC_both : ∀ (x y u v : List UInt8), x.length = y.length → lexC (x ++ u) (y ++ v) = if lexC x y = 0 then lexC u v else lexC x y
  | [], [], u, v, _ => by rw [if_pos (show lexC [] [] = 0 from rfl)]; rfl
  | [], _ :: _, _, _, h => by simp at h
  | _ :: _, [], _, _, h => by simp at h
  | a :: x, b :: y, u, v, h => by
    show lexC (a :: (x ++ u)) (b :: (y ++ v)) = _
    rw [lexC, lexC]
    by_cases h1 : a.toNat < b.toNat
    · rw [if_pos h1, if_pos h1, if_neg (by decide)]
    · rw [if_neg h1, if_neg h1]
      by_cases h2 : b.toNat < a.toNat
      · rw [if_pos h2, if_pos h2, if_neg (by decide)]
      · rw [if_neg h2, if_neg h2]
        exact lexC_both x y u v (by simpa using h)
/-- A family's cell is ahead of all that stands in columns. -/
theorem fam_lex (q u v : List UInt8) : lexC (0 :: 0 :: u) (esc q ++ (0 :: 1 :: v)) = -1 ∧ lexC (esc q ++ (0 :: 1 :: v)) (0 :: 0 :: u) = 1 := by
  cases q with
  | nil =>
    show lexC (0 :: 0 :: u) (0 :: 1 :: v) = -1 ∧ lexC (0 :: 1 :: v) (0 :: 0 :: u) = 1
    constructor
    · rw [lexC, if_neg (by decide), if_neg (by decide), lexC, if_pos (by decide)]
    · rw [lexC, if_neg (by decide), if_neg (by decide), lexC, if_neg (by decide), if_pos (by decide)]
  | cons d t =>
    unfold esc
    by_cases h : d = 0
    · rw [if_pos h]
      show lexC (0 :: 0 :: u) (0 :: 255 :: _) = -1 ∧ lexC (0 :: 255 :: _) (0 :: 0 :: u) = 1
      constructor
      · rw [lexC, if_neg (by decide), if_neg (by decide), lexC, if_pos (by decide)]
      · rw [lexC, if_neg (by decide), if_neg (by decide), lexC, if_neg (by decide), if_pos (by decide)]
    · rw [if_neg h]
      have : ¬ d.toNat = 0 := fun e => h (UInt8.toNat_inj.1 e)
      have z : (0 : UInt8).toNat = 0 := rfl
      show lexC (0 :: 0 :: u) (d :: _) = -1 ∧ lexC (d :: _) (0 :: 0 :: u) = 1
      constructor
      · rw [lexC, z, if_pos (by omega)]
      · rw [lexC, z, if_neg (by omega), if_pos (by omega)]
theorem cmpI_compare (a b : Int) : Lib.compareInt a b = cmpI a b := by unfold Lib.compareInt cmpI; split <;> (try split) <;> (try split) <;> omega
theorem tail_lex {t1 k1 t2 k2 : Int} (h1 : 0 ≤ t1) (h2 : t1 ≤ 1099511627776) (h3 : 0 ≤ t2) (h4 : t2 ≤ 1099511627776) (h5 : 1 ≤ k1) (h6 : k1 ≤ 4) (h7 : 1 ≤ k2) (h8 : k2 ≤ 4) :
    lexC (tailM t1 k1) (tailM t2 k2) = orI [Lib.compareInt t2 t1, Lib.compareInt k2 k1] := by
  unfold tailM
  rw [lexC_both _ _ _ _ (by rw [byW_len, byW_len]), lexC_byW (by omega) (by omega)]
  have e1 : cmpI ((9223372036854775807 - t1).toNat : Int) ((9223372036854775807 - t2).toNat : Int) = Lib.compareInt t2 t1 := by
    unfold cmpI Lib.compareInt
    split <;> (try split) <;> (try split) <;> omega
  have e2 : lexC [UInt8.ofNat (255 - k1).toNat] [UInt8.ofNat (255 - k2).toNat] = Lib.compareInt k2 k1 := by
    have n1 : (UInt8.ofNat (255 - k1).toNat).toNat = (255 - k1).toNat := by rw [UInt8.toNat_ofNat']; omega
    have n2 : (UInt8.ofNat (255 - k2).toNat).toNat = (255 - k2).toNat := by rw [UInt8.toNat_ofNat']; omega
    rw [lexC, n1, n2]
    unfold Lib.compareInt
    by_cases a : k2 < k1
    · rw [if_pos (by omega), if_pos a]
    · rw [if_neg (by omega), if_neg a]
      by_cases b : k1 < k2
      · rw [if_pos (by omega), if_pos b]
      · rw [if_neg (by omega), if_neg b]; rfl
  rw [e1, e2]
  unfold orI orI orI
  split <;> rename_i h
  · split <;> omega
  · rfl

/-- What a right cell's parts are. -/
theorem cright_parts {r f q vs : List UInt8} {t k vk vn : Int} (h : cRight r f q t k vk vn vs = true) :
    1 ≤ r.length ∧ r.length ≤ 16 ∧ nameB f = true ∧ f.length ≤ 8 ∧ q.length ≤ 12 ∧ 0 ≤ t ∧ t ≤ 1099511627776 ∧ 1 ≤ k ∧ k ≤ 4 ∧ (k = 4 → q = []) ∧ (k = 1 → vRight vk vn vs = true) ∧ (k ≠ 1 → vk = 0 ∧ vn = 0 ∧ vs = []) := by
  unfold cRight cHead at h
  simp only [Bool.and_eq_true, decide_eq_true_eq] at h
  obtain ⟨⟨⟨h1, h2⟩, h3, h4, h5, h6⟩, h7⟩ := h
  have hf : f.length ≤ 8 := by unfold nameB at h3; simp only [Bool.and_eq_true, decide_eq_true_eq] at h3; exact h3.2.2
  have hz : ∀ {vk vn : Int} {vs : List UInt8}, zeroV vk vn vs = true → vk = 0 ∧ vn = 0 ∧ vs = [] := by
    intro vk vn vs h
    unfold zeroV at h
    simp only [Bool.and_eq_true, decide_eq_true_eq, List.isEmpty_iff] at h
    exact ⟨h.1, h.2.1, h.2.2⟩
  unfold cTail at h7
  refine ⟨h1, h2, h3, hf, h4, h5, h6, ?_⟩
  by_cases k1 : k = 1
  · rw [if_pos k1] at h7
    exact ⟨by omega, by omega, fun e => by omega, fun _ => h7, fun e => absurd k1 e⟩
  · rw [if_neg k1] at h7
    by_cases k23 : k = 2 ∨ k = 3
    · rw [if_pos k23] at h7
      exact ⟨by omega, by omega, fun e => by omega, fun e => absurd e k1, fun _ => hz h7⟩
    · rw [if_neg k23] at h7
      by_cases k4 : k = 4
      · rw [if_pos k4] at h7
        simp only [Bool.and_eq_true, List.isEmpty_iff] at h7
        exact ⟨by omega, by omega, fun _ => h7.1, fun e => absurd e k1, fun _ => hz h7.2⟩
      · rw [if_neg k4] at h7; cases h7

theorem orI_cons (x : Int) (l : List Int) : orI (x :: l) = if x = 0 then orI l else x := rfl
/-- The keys of right cells are in order as the cells are. -/
theorem key_lex {r1 f1 q1 vs1 : List UInt8} {t1 k1 vk1 vn1 : Int} {r2 f2 q2 vs2 : List UInt8} {t2 k2 vk2 vn2 : Int} (h1 : cRight r1 f1 q1 t1 k1 vk1 vn1 vs1 = true) (h2 : cRight r2 f2 q2 t2 k2 vk2 vn2 vs2 = true) :
    lexC (keyM r1 f1 q1 t1 k1) (keyM r2 f2 q2 t2 k2) = cOrd r1 f1 q1 t1 k1 r2 f2 q2 t2 k2 := by
  obtain ⟨_, _, _, _, _, a1, a2, a3, a4, a5, _, _⟩ := cright_parts h1
  obtain ⟨_, _, _, _, _, b1, b2, b3, b4, b5, _, _⟩ := cright_parts h2
  have ht := tail_lex a1 a2 b1 b2 a3 a4 b3 b4
  unfold keyM cOrd
  show lexC (esc r1 ++ (0 :: 1 :: (esc f1 ++ (0 :: 1 :: (midM q1 k1 ++ tailM t1 k1))))) (esc r2 ++ (0 :: 1 :: (esc f2 ++ (0 :: 1 :: (midM q2 k2 ++ tailM t2 k2))))) = _
  rw [esc_lex, orI_cons]
  split
  · rw [esc_lex, orI_cons]
    split
    · rw [orI_cons]
      unfold midM rankC
      by_cases c1 : k1 = 4
      · rw [if_pos c1, if_pos c1]
        by_cases c2 : k2 = 4
        · rw [if_pos c2, if_pos c2, if_pos (show Lib.compareInt 0 0 = 0 from rfl), a5 c1, b5 c2, orI_cons, if_pos (show Lib.compareBytes [] [] = 0 from rfl), lexC_left, ht]
        · rw [if_neg c2, if_neg c2, if_neg (show ¬ Lib.compareInt 0 1 = 0 by decide)]
          show lexC (0 :: 0 :: tailM t1 k1) ((esc q2 ++ [0, 1]) ++ tailM t2 k2) = _
          rw [List.append_assoc]
          exact (fam_lex q2 _ _).1
      · rw [if_neg c1, if_neg c1]
        by_cases c2 : k2 = 4
        · rw [if_pos c2, if_pos c2, if_neg (show ¬ Lib.compareInt 1 0 = 0 by decide)]
          show lexC ((esc q1 ++ [0, 1]) ++ tailM t1 k1) (0 :: 0 :: tailM t2 k2) = _
          rw [List.append_assoc]
          exact (fam_lex q1 _ _).2
        · rw [if_neg c2, if_neg c2, if_pos (show Lib.compareInt 1 1 = 0 from rfl), List.append_assoc, List.append_assoc]
          show lexC (esc q1 ++ (0 :: 1 :: tailM t1 k1)) (esc q2 ++ (0 :: 1 :: tailM t2 k2)) = _
          rw [esc_lex, orI_cons, ht]
    · rfl
  · rfl

theorem compareInt_zero {a b : Int} (h : Lib.compareInt a b = 0) : a = b := by unfold Lib.compareInt at h; split at h <;> (try split at h) <;> omega
/-- Only a cell's own place is its place. -/
theorem cOrd_zero {r1 f1 q1 : List UInt8} {t1 k1 : Int} {r2 f2 q2 : List UInt8} {t2 k2 : Int} (h : cOrd r1 f1 q1 t1 k1 r2 f2 q2 t2 k2 = 0) : r1 = r2 ∧ f1 = f2 ∧ q1 = q2 ∧ t1 = t2 ∧ k1 = k2 := by
  unfold cOrd at h
  rw [orI_cons] at h
  split at h
  · rename_i e1
    rw [orI_cons] at h
    split at h
    · rename_i e2
      rw [orI_cons] at h
      split at h
      · rw [orI_cons] at h
        split at h
        · rename_i e3
          rw [orI_cons] at h
          split at h
          · rename_i e4
            rw [orI_cons] at h
            split at h
            · rename_i e5
              exact ⟨cmpB_zero _ _ e1, cmpB_zero _ _ e2, cmpB_zero _ _ e3, (compareInt_zero e4).symm, (compareInt_zero e5).symm⟩
            · contradiction
          · contradiction
        · contradiction
      · contradiction
    · contradiction
  · contradiction

/-- The text at the beginning of bytes, and what stands behind it. -/
def rdT : List UInt8 → Option (List UInt8 × List UInt8)
  | [] => none
  | [_] => none
  | x :: y :: r => if x = 0 then (if y = 1 then some ([], r) else if y = 255 then (rdT r).map (fun p => (0 :: p.1, p.2)) else none) else (rdT (y :: r)).map fun p => (x :: p.1, p.2)
theorem rdT_other {x : UInt8} (h : ¬ x = 0) (l : List UInt8) : rdT (x :: l) = (rdT l).map fun p => (x :: p.1, p.2) := by
  cases l with
  | nil => rfl
  | cons y r => rw [rdT, if_neg h]
theorem rdT_esc : ∀ (s u : List UInt8), rdT (esc s ++ (0 :: 1 :: u)) = some (s, u)
  | [], u => by show rdT (0 :: 1 :: u) = _; rw [rdT, if_pos rfl, if_pos rfl]
  | c :: s, u => by
    unfold esc
    by_cases h : c = 0
    · rw [if_pos h]
      show rdT (0 :: 255 :: (esc s ++ (0 :: 1 :: u))) = _
      rw [rdT, if_pos rfl, if_neg (by decide), if_pos rfl, rdT_esc s u, h]; rfl
    · rw [if_neg h]
      show rdT (c :: (esc s ++ (0 :: 1 :: u))) = _
      rw [rdT_other h, rdT_esc s u]; rfl
theorem rdT_back : ∀ (n : Nat) (l s u : List UInt8), l.length ≤ n → rdT l = some (s, u) → l = esc s ++ (0 :: 1 :: u)
  | 0, l, s, u, hl, h => by
    have : l = [] := List.length_eq_zero_iff.1 (by omega)
    subst this; cases h
  | n + 1, [], s, u, hl, h => by cases h
  | n + 1, [x], s, u, hl, h => by cases h
  | n + 1, x :: y :: r, s, u, hl, h => by
    by_cases hx : x = 0
    · rw [rdT, if_pos hx] at h
      by_cases h1 : y = 1
      · rw [if_pos h1] at h
        cases h
        rw [hx, h1]; rfl
      · rw [if_neg h1] at h
        by_cases h2 : y = 255
        · rw [if_pos h2] at h
          cases hr : rdT r with
          | none => rw [hr] at h; cases h
          | some p =>
            obtain ⟨s', u'⟩ := p
            rw [hr] at h
            cases h
            rw [rdT_back n r s' u' (by simp at hl; omega) hr, hx, h2]; rfl
        · rw [if_neg h2] at h; cases h
    · rw [rdT_other hx] at h
      cases hr : rdT (y :: r) with
      | none => rw [hr] at h; cases h
      | some p =>
        obtain ⟨s', u'⟩ := p
        rw [hr] at h
        cases h
        rw [rdT_back n (y :: r) s' u' (by simp at hl ⊢; omega) hr]
        show _ = (if x = 0 then 0 :: 255 :: esc s' else x :: esc s') ++ _
        rw [if_neg hx]; rfl
theorem rdT_rest {l s u : List UInt8} (h : rdT l = some (s, u)) : l = esc s ++ (0 :: 1 :: u) := rdT_back _ l s u (Nat.le_refl _) h
end Go.Proofs.YtfcnobcpnhfgmaaDoor
