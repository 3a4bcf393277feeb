/- Several texts in one: CM CQ. Conditions: as each theorem names them. -/
import Derived.Test.YtjbjdkginemedaaGreatDoorQ3
import Derived.Test.YtjbjdkginemedaaGreatDoorQ5
/- Plain mathematics of cells: their keys and bytes, in order as the cells are; what of bytes is a text, and whose bytes they are. No program in it. -/
namespace Go.Proofs.YtjbjdkginemedaaGreatDoor
open Go.RowKit

/-- The time and the kind. -/
def tailM (t k : Int) : List UInt8 := byW 8 (9223372036854775807 - t).toNat ++ [UInt8.ofNat (255 - k).toNat]
/-- The qualifier, or that there is none. -/
def midM (q : List UInt8) (k : Int) : List UInt8 := if k = 4 then [0, 0] else esc q ++ [0, 1]
def keyM (r f q : List UInt8) (t k : Int) : List UInt8 := esc r ++ ([0, 1] ++ (esc f ++ ([0, 1] ++ (midM q k ++ tailM t k))))
def cEnc (r f q : List UInt8) (t k vk vn : Int) (vs : List UInt8) : List UInt8 := keyM r f q t k ++ (if k = 1 then vEnc vk vn vs else [])

theorem tail_len (t k : Int) : (tailM t k).length = 9 := by unfold tailM; rw [List.length_append, byW_len]; rfl
theorem lexC_left : ∀ (p u v : List UInt8), lexC (p ++ u) (p ++ v) = lexC u v
  | [], _, _ => rfl
  | a :: p, u, v => by
    show lexC (a :: (p ++ u)) (a :: (p ++ v)) = _
    rw [lexC, if_neg (by omega), if_neg (by omega)]; exact lexC_left p u v
/-- Two rows of one length, and what stands behind them. -/
theorem lexC_both : ∀ (x y u v : List UInt8), x.length = y.length → lexC (x ++ u) (y ++ v) = if lexC x y = 0 then lexC u v else lexC x y
  | [], [], u, v, _ => by rw [if_pos (show lexC [] [] = 0 from rfl)]; rfl
  | [], _ :: _, _, _, h => by simp at h
  | _ :: _, [], _, _, h => by simp at h
  | a :: x, b :: y, u, v, h => by
    show lexC (a :: (x ++ u)) (b :: (y ++ v)) = _
    rw [lexC, lexC]
    by_cases h1 : a.toNat < b.toNat
    · rw [if_pos h1, if_pos h1, if_neg (by decide)]
    · rw [if_neg h1, if_neg h1]
      by_cases h2 : b.toNat < a.toNat
      · rw [if_pos h2, if_pos h2, if_neg (by decide)]
      · rw [if_neg h2, if_neg h2]
        exact lexC_both x y u v (by simpa using h)
/-- A family's cell is ahead of all that stands in columns. -/
theorem fam_lex (q u v : List UInt8) : lexC (0 :: 0 :: u) (esc q ++ (0 :: 1 :: v)) = -1 ∧ lexC (esc q ++ (0 :: 1 :: v)) (0 :: 0 :: u) = 1 := by
  cases q with
  | nil =>
    show lexC (0 :: 0 :: u) (0 :: 1 :: v) = -1 ∧ lexC (0 :: 1 :: v) (0 :: 0 :: u) = 1
    constructor
    · rw [lexC, if_neg (by decide), if_neg (by decide), lexC, if_pos (by decide)]
    · rw [lexC, if_neg (by decide), if_neg (by decide), lexC, if_neg (by decide), if_pos (by decide)]
  | cons d t =>
    unfold esc
    by_cases h : d = 0
    · rw [if_pos h]
      show lexC (0 :: 0 :: u) (0 :: 255 :: _) = -1 ∧ lexC (0 :: 255 :: _) (0 :: 0 :: u) = 1
      constructor
      · rw [lexC, if_neg (by decide), if_neg (by decide), lexC, if_pos (by decide)]
      · rw [lexC, if_neg (by decide), if_neg (by decide), lexC, if_neg (by decide), if_pos (by decide)]
    · rw [if_neg h]
      have : ¬ d.toNat = 0 := fun e => h (UInt8.toNat_inj.1 e)
      have z : (0 : UInt8).toNat = 0 := rfl
      show lexC (0 :: 0 :: u) (d :: _) = -1 ∧ lexC (d :: _) (0 :: 0 :: u) = 1
      constructor
      · rw [lexC, z, if_pos (by omega)]
      · rw [lexC, z, if_neg (by omega), if_pos (by omega)]
theorem cmpI_compare (a b : Int) : Lib.compareInt a b = cmpI a b := by unfold Lib.compareInt cmpI; split <;> (try split) <;> (try split) <;> omega
theorem tail_lex {t1 k1 t2 k2 : Int} (h1 : 0 ≤ t1) (h2 : t1 ≤ 1099511627776) (h3 : 0 ≤ t2) (h4 : t2 ≤ 1099511627776) (h5 : 1 ≤ k1) (h6 : k1 ≤ 4) (h7 : 1 ≤ k2) (h8 : k2 ≤ 4) :
    lexC (tailM t1 k1) (tailM t2 k2) = orI [Lib.compareInt t2 t1, Lib.compareInt k2 k1] := by
  unfold tailM
  rw [lexC_both _ _ _ _ (by rw [byW_len, byW_len]), lexC_byW (by omega) (by omega)]
  have e1 : cmpI ((9223372036854775807 - t1).toNat : Int) ((9223372036854775807 - t2).toNat : Int) = Lib.compareInt t2 t1 := by
    unfold cmpI Lib.compareInt
    split <;> (try split) <;> (try split) <;> omega
  have e2 : lexC [UInt8.ofNat (255 - k1).toNat] [UInt8.ofNat (255 - k2).toNat] = Lib.compareInt k2 k1 := by
    have n1 : (UInt8.ofNat (255 - k1).toNat).toNat = (255 - k1).toNat := by rw [UInt8.toNat_ofNat']; omega
    have n2 : (UInt8.ofNat (255 - k2).toNat).toNat = (255 - k2).toNat := by rw [UInt8.toNat_ofNat']; omega
    rw [lexC, n1, n2]
    unfold Lib.compareInt
    by_cases a : k2 < k1
    · rw [if_pos (by omega), if_pos a]
    · rw [if_neg (by omega), if_neg a]
      by_cases b : k1 < k2
      · rw [if_pos (by omega), if_pos b]
      · rw [if_neg (by omega), if_neg b]; rfl
  rw [e1, e2]
  unfold orI orI orI
  split <;> rename_i h
  · split <;> omega
  · rfl

/-- What a right cell's parts are. -/
theorem cright_parts {r f q vs : List UInt8} {t k vk vn : Int} (h : cRight r f q t k vk vn vs = true) :
    1 ≤ r.length ∧ r.length ≤ 16 ∧ nameB f = true ∧ f.length ≤ 8 ∧ q.length ≤ 12 ∧ 0 ≤ t ∧ t ≤ 1099511627776 ∧ 1 ≤ k ∧ k ≤ 4 ∧ (k = 4 → q = []) ∧ (k = 1 → vRight vk vn vs = true) ∧ (k ≠ 1 → vk = 0 ∧ vn = 0 ∧ vs = []) := by
  unfold cRight cHead at h
  simp only [Bool.and_eq_true, decide_eq_true_eq] at h
  obtain ⟨⟨⟨h1, h2⟩, h3, h4, h5, h6⟩, h7⟩ := h
  have hf : f.length ≤ 8 := by unfold nameB at h3; simp only [Bool.and_eq_true, decide_eq_true_eq] at h3; exact h3.2.2
  have hz : ∀ {vk vn : Int} {vs : List UInt8}, zeroV vk vn vs = true → vk = 0 ∧ vn = 0 ∧ vs = [] := by
    intro vk vn vs h
    unfold zeroV at h
    simp only [Bool.and_eq_true, decide_eq_true_eq, List.isEmpty_iff] at h
    exact ⟨h.1, h.2.1, h.2.2⟩
  unfold cTail at h7
  refine ⟨h1, h2, h3, hf, h4, h5, h6, ?_⟩
  by_cases k1 : k = 1
  · rw [if_pos k1] at h7
    exact ⟨by omega, by omega, fun e => by omega, fun _ => h7, fun e => absurd k1 e⟩
  · rw [if_neg k1] at h7
    by_cases k23 : k = 2 ∨ k = 3
    · rw [if_pos k23] at h7
      exact ⟨by omega, by omega, fun e => by omega, fun e => absurd e k1, fun _ => hz h7⟩
    · rw [if_neg k23] at h7
      by_cases k4 : k = 4
      · rw [if_pos k4] at h7
        simp only [Bool.and_eq_true, List.isEmpty_iff] at h7
        exact ⟨by omega, by omega, fun _ => h7.1, fun e => absurd e k1, fun _ => hz h7.2⟩
      · rw [if_neg k4] at h7; cases h7

theorem orI_cons (x : Int) (l : List Int) : orI (x :: l) = if x = 0 then orI l else x := rfl
/-- The keys of right cells are in order as the cells are. -/
theorem key_lex {r1 f1 q1 vs1 : List UInt8} {t1 k1 vk1 vn1 : Int} {r2 f2 q2 vs2 : List UInt8} {t2 k2 vk2 vn2 : Int} (h1 : cRight r1 f1 q1 t1 k1 vk1 vn1 vs1 = true) (h2 : cRight r2 f2 q2 t2 k2 vk2 vn2 vs2 = true) :
    lexC (keyM r1 f1 q1 t1 k1) (keyM r2 f2 q2 t2 k2) = cOrd r1 f1 q1 t1 k1 r2 f2 q2 t2 k2 := by
  obtain ⟨_, _, _, _, _, a1, a2, a3, a4, a5, _, _⟩ := cright_parts h1
  obtain ⟨_, _, _, _, _, b1, b2, b3, b4, b5, _, _⟩ := cright_parts h2
  have ht := tail_lex a1 a2 b1 b2 a3 a4 b3 b4
  unfold keyM cOrd
  show lexC (esc r1 ++ (0 :: 1 :: (esc f1 ++ (0 :: 1 :: (midM q1 k1 ++ tailM t1 k1))))) (esc r2 ++ (0 :: 1 :: (esc f2 ++ (0 :: 1 :: (midM q2 k2 ++ tailM t2 k2))))) = _
  rw [esc_lex, orI_cons]
  split
  · rw [esc_lex, orI_cons]
    split
    · rw [orI_cons]
      unfold midM rankC
      by_cases c1 : k1 = 4
      · rw [if_pos c1, if_pos c1]
        by_cases c2 : k2 = 4
        · rw [if_pos c2, if_pos c2, if_pos (show Lib.compareInt 0 0 = 0 from rfl), a5 c1, b5 c2, orI_cons, if_pos (show Lib.compareBytes [] [] = 0 from rfl), lexC_left, ht]
        · rw [if_neg c2, if_neg c2, if_neg (show ¬ Lib.compareInt 0 1 = 0 by decide)]
          show lexC (0 :: 0 :: tailM t1 k1) ((esc q2 ++ [0, 1]) ++ tailM t2 k2) = _
          rw [List.append_assoc]
          exact (fam_lex q2 _ _).1
      · rw [if_neg c1, if_neg c1]
        by_cases c2 : k2 = 4
        · rw [if_pos c2, if_pos c2, if_neg (show ¬ Lib.compareInt 1 0 = 0 by decide)]
          show lexC ((esc q1 ++ [0, 1]) ++ tailM t1 k1) (0 :: 0 :: tailM t2 k2) = _
          rw [List.append_assoc]
          exact (fam_lex q1 _ _).2
        · rw [if_neg c2, if_neg c2, if_pos (show Lib.compareInt 1 1 = 0 from rfl), List.append_assoc, List.append_assoc]
          show lexC (esc q1 ++ (0 :: 1 :: tailM t1 k1)) (esc q2 ++ (0 :: 1 :: tailM t2 k2)) = _
          rw [esc_lex, orI_cons, ht]
    · rfl
  · rfl

theorem compareInt_zero {a b : Int} (h : Lib.compareInt a b = 0) : a = b := by unfold Lib.compareInt at h; split at h <;> (try split at h) <;> omega
/-- Only a cell's own place is its place. -/
theorem cOrd_zero {r1 f1 q1 : List UInt8} {t1 k1 : Int} {r2 f2 q2 : List UInt8} {t2 k2 : Int} (h : cOrd r1 f1 q1 t1 k1 r2 f2 q2 t2 k2 = 0) : r1 = r2 ∧ f1 = f2 ∧ q1 = q2 ∧ t1 = t2 ∧ k1 = k2 := by
  unfold cOrd at h
  rw [orI_cons] at h
  split at h
  · rename_i e1
    rw [orI_cons] at h
    split at h
    · rename_i e2
      rw [orI_cons] at h
      split at h
      · rw [orI_cons] at h
        split at h
        · rename_i e3
          rw [orI_cons] at h
          split at h
          · rename_i e4
            rw [orI_cons] at h
            split at h
            · rename_i e5
              exact ⟨cmpB_zero _ _ e1, cmpB_zero _ _ e2, cmpB_zero _ _ e3, (compareInt_zero e4).symm, (compareInt_zero e5).symm⟩
            · contradiction
          · contradiction
        · contradiction
      · contradiction
    · contradiction
  · contradiction

/-- The text at the beginning of bytes, and what stands behind it. -/
def rdT : List UInt8 → Option (List UInt8 × List UInt8)
  | [] => none
  | [_] => none
  | x :: y :: r => if x = 0 then (if y = 1 then some ([], r) else if y = 255 then (rdT r).map (fun p => (0 :: p.1, p.2)) else none) else (rdT (y :: r)).map fun p => (x :: p.1, p.2)
theorem rdT_other {x : UInt8} (h : ¬ x = 0) (l : List UInt8) : rdT (x :: l) = (rdT l).map fun p => (x :: p.1, p.2) := by
  cases l with
  | nil => rfl
  | cons y r => rw [rdT, if_neg h]
theorem rdT_esc : ∀ (s u : List UInt8), rdT (esc s ++ (0 :: 1 :: u)) = some (s, u)
  | [], u => by show rdT (0 :: 1 :: u) = _; rw [rdT, if_pos rfl, if_pos rfl]
  | c :: s, u => by
    unfold esc
    by_cases h : c = 0
    · rw [if_pos h]
      show rdT (0 :: 255 :: (esc s ++ (0 :: 1 :: u))) = _
      rw [rdT, if_pos rfl, if_neg (by decide), if_pos rfl, rdT_esc s u, h]; rfl
    · rw [if_neg h]
      show rdT (c :: (esc s ++ (0 :: 1 :: u))) = _
      rw [rdT_other h, rdT_esc s u]; rfl
theorem rdT_back : ∀ (n : Nat) (l s u : List UInt8), l.length ≤ n → rdT l = some (s, u) → l = esc s ++ (0 :: 1 :: u)
  | 0, l, s, u, hl, h => by
    have : l = [] := List.length_eq_zero_iff.1 (by omega)
    subst this; cases h
  | n + 1, [], s, u, hl, h => by cases h
  | n + 1, [x], s, u, hl, h => by cases h
  | n + 1, x :: y :: r, s, u, hl, h => by
    by_cases hx : x = 0
    · rw [rdT, if_pos hx] at h
      by_cases h1 : y = 1
      · rw [if_pos h1] at h
        cases h
        rw [hx, h1]; rfl
      · rw [if_neg h1] at h
        by_cases h2 : y = 255
        · rw [if_pos h2] at h
          cases hr : rdT r with
          | none => rw [hr] at h; cases h
          | some p =>
            obtain ⟨s', u'⟩ := p
            rw [hr] at h
            cases h
            rw [rdT_back n r s' u' (by simp at hl; omega) hr, hx, h2]; rfl
        · rw [if_neg h2] at h; cases h
    · rw [rdT_other hx] at h
      cases hr : rdT (y :: r) with
      | none => rw [hr] at h; cases h
      | some p =>
        obtain ⟨s', u'⟩ := p
        rw [hr] at h
        cases h
        rw [rdT_back n (y :: r) s' u' (by simp at hl ⊢; omega) hr]
        show _ = (if x = 0 then 0 :: 255 :: esc s' else x :: esc s') ++ _
        rw [if_neg hx]; rfl
theorem rdT_rest {l s u : List UInt8} (h : rdT l = some (s, u)) : l = esc s ++ (0 :: 1 :: u) := rdT_back _ l s u (Nat.le_refl _) h
end Go.Proofs.YtjbjdkginemedaaGreatDoor

/- Plain mathematics: whose bytes a row of bytes is: of one right cell, or of none. No program in it. -/
namespace Go.Proofs.YtjbjdkginemedaaGreatDoor
open Go.RowKit

/-- No right cell's bytes. -/
def NoCell (l : List UInt8) : Prop := ∀ r f q t k vk vn vs, cRight r f q t k vk vn vs = true → inI vn → cEnc r f q t k vk vn vs ≠ l
def vPart (k vk vn : Int) (vs : List UInt8) : List UInt8 := if k = 1 then vEnc vk vn vs else []
theorem cEnc_form (r f q : List UInt8) (t k vk vn : Int) (vs : List UInt8) : cEnc r f q t k vk vn vs = esc r ++ (0 :: 1 :: (esc f ++ (0 :: 1 :: (midM q k ++ (tailM t k ++ vPart k vk vn vs))))) := by
  unfold cEnc keyM vPart
  simp [List.append_assoc]
theorem enc_head {r f q : List UInt8} {t k vk vn : Int} {vs l : List UInt8} (h : cEnc r f q t k vk vn vs = l) : rdT l = some (r, esc f ++ (0 :: 1 :: (midM q k ++ (tailM t k ++ vPart k vk vn vs)))) := by
  rw [← h, cEnc_form]; exact rdT_esc _ _
theorem enc_in {r f q : List UInt8} {t k vk vn : Int} {vs l r' f' l1 l2 : List UInt8} (h1 : rdT l = some (r', l1)) (h2 : rdT l1 = some (f', l2)) (h : cEnc r f q t k vk vn vs = l) : r = r' ∧ f = f' ∧ midM q k ++ (tailM t k ++ vPart k vk vn vs) = l2 := by
  have h3 := enc_head h
  rw [h1] at h3
  simp only [Option.some.injEq, Prod.mk.injEq] at h3
  obtain ⟨rfl, rfl⟩ := h3
  rw [rdT_esc] at h2
  simp only [Option.some.injEq, Prod.mk.injEq] at h2
  obtain ⟨rfl, rfl⟩ := h2
  exact ⟨rfl, rfl, rfl⟩
theorem no_head {l : List UInt8} (h1 : rdT l = none) : NoCell l := by
  intro r f q t k vk vn vs _ _ h
  have := enc_head h
  rw [h1] at this; cases this
theorem no_fam {l r l1 : List UInt8} (h1 : rdT l = some (r, l1)) (h2 : rdT l1 = none) : NoCell l := by
  intro r' f q t k vk vn vs _ _ h
  have := enc_head h
  rw [h1] at this
  simp only [Option.some.injEq, Prod.mk.injEq] at this
  obtain ⟨rfl, rfl⟩ := this
  rw [rdT_esc] at h2; cases h2

theorem rdT_two (l : List UInt8) : rdT (0 :: 0 :: l) = none := by
  rw [rdT, if_pos rfl, if_neg (by decide), if_neg (by decide)]
theorem mid_text {q X : List UInt8} {k : Int} (hk : ¬ k = 4) : rdT (midM q k ++ X) = some (q, X) := by
  unfold midM
  rw [if_neg hk, List.append_assoc]
  exact rdT_esc q X
/-- What stands behind the family's name: whole, the qualifier, the rest. -/
def Mid (l2 q l3 : List UInt8) (wh : Bool) : Prop := (wh = true ∧ q = [] ∧ l2 = 0 :: 0 :: l3) ∨ (wh = false ∧ (∀ r, l2 ≠ 0 :: 0 :: r) ∧ rdT l2 = some (q, l3))
theorem mid_in {l2 q q' l3 X : List UInt8} {wh : Bool} {k : Int} (hm : Mid l2 q' l3 wh) (h4 : k = 4 → q = []) (h : midM q k ++ X = l2) : q = q' ∧ X = l3 ∧ wh = decide (k = 4) := by
  by_cases hk : k = 4
  · rcases hm with ⟨rfl, rfl, h2⟩ | ⟨_, h2, _⟩
    · unfold midM at h
      rw [if_pos hk, h2] at h
      refine ⟨h4 hk, ?_, by simp [hk]⟩
      simpa using h
    · exfalso
      unfold midM at h
      rw [if_pos hk] at h
      exact h2 X h.symm
  · have ht := mid_text (q := q) (X := X) hk
    rw [h] at ht
    rcases hm with ⟨_, _, h2⟩ | ⟨rfl, _, h3⟩
    · rw [h2, rdT_two] at ht; cases ht
    · rw [h3] at ht
      simp only [Option.some.injEq, Prod.mk.injEq] at ht
      exact ⟨ht.1.symm, ht.2.symm, by simp [hk]⟩
theorem mid_none {l2 q X : List UInt8} {k : Int} (h2 : ∀ r, l2 ≠ 0 :: 0 :: r) (h3 : rdT l2 = none) : midM q k ++ X ≠ l2 := by
  intro h
  by_cases hk : k = 4
  · unfold midM at h
    rw [if_pos hk] at h
    exact h2 X h.symm
  · have ht := mid_text (q := q) (X := X) hk
    rw [h, h3] at ht; cases ht
theorem no_qual {l r l1 f l2 : List UInt8} (h1 : rdT l = some (r, l1)) (h2 : rdT l1 = some (f, l2)) (h3 : ∀ r, l2 ≠ 0 :: 0 :: r) (h4 : rdT l2 = none) : NoCell l := by
  intro r' f' q t k vk vn vs _ _ h
  exact mid_none h3 h4 (enc_in h1 h2 h).2.2
theorem tail_in {t k : Int} {V l3 : List UInt8} (h1 : 0 ≤ t) (h2 : t ≤ 1099511627776) (h3 : 1 ≤ k) (h4 : k ≤ 4) (h : tailM t k ++ V = l3) :
    8 ≤ l3.length ∧ 9223372036854775807 - (foldB (l3.take 8) : Int) = t ∧ ∃ x, l3.drop 8 = x :: V ∧ 255 - (x.toNat : Int) = k := by
  have e8 : (byW 8 (9223372036854775807 - t).toNat).length = 8 := byW_len 8 _
  have p8 : (256 : Nat) ^ 8 = 18446744073709551616 := by decide
  subst h
  unfold tailM
  rw [List.append_assoc]
  refine ⟨by rw [List.length_append, e8]; omega, ?_, UInt8.ofNat (255 - k).toNat, ?_, ?_⟩
  · rw [List.take_append_of_le_length (by omega), List.take_of_length_le (by omega), foldB_byW 8 _ (by rw [p8]; omega)]
    omega
  · rw [List.drop_append_of_le_length (by omega), List.drop_of_length_le (by omega)]
    rfl
  · rw [UInt8.toNat_ofNat']; omega
/-- The parts that a reader has taken off bytes. -/
structure Took (l r f q : List UInt8) (wh : Bool) (l3 : List UInt8) : Prop where
  ex : ∃ l1 l2, rdT l = some (r, l1) ∧ rdT l1 = some (f, l2) ∧ Mid l2 q l3 wh
theorem Took.inn {l r f q l3 : List UInt8} {wh : Bool} (h : Took l r f q wh l3) {r' f' q' : List UInt8} {t k vk vn : Int} {vs : List UInt8} (hr : cRight r' f' q' t k vk vn vs = true) (he : cEnc r' f' q' t k vk vn vs = l) :
    r' = r ∧ f' = f ∧ q' = q ∧ wh = decide (k = 4) ∧ 8 ≤ l3.length ∧ 9223372036854775807 - (foldB (l3.take 8) : Int) = t ∧ ∃ x, l3.drop 8 = x :: vPart k vk vn vs ∧ 255 - (x.toNat : Int) = k := by
  obtain ⟨l1, l2, h1, h2, h3⟩ := h.ex
  obtain ⟨_, _, _, _, _, p1, p2, p3, p4, p5, _, _⟩ := cright_parts hr
  obtain ⟨e1, e2, e3⟩ := enc_in h1 h2 he
  obtain ⟨e4, e5, e6⟩ := mid_in h3 p5 e3
  obtain ⟨e7, e8, e9⟩ := tail_in p1 p2 p3 p4 e5
  exact ⟨e1, e2, e4, e6, e7, e8, e9⟩
theorem Took.no8 {l r f q l3 : List UInt8} {wh : Bool} (h : Took l r f q wh l3) (h8 : ¬ 8 ≤ l3.length) : NoCell l := fun _ _ _ _ _ _ _ _ hr _ he => h8 (h.inn hr he).2.2.2.2.1
theorem Took.no9 {l r f q l3 : List UInt8} {wh : Bool} (h : Took l r f q wh l3) (h8 : l3.drop 8 = []) : NoCell l := fun _ _ _ _ _ _ _ _ hr _ he => by
  obtain ⟨x, hx, _⟩ := (h.inn hr he).2.2.2.2.2.2
  rw [h8] at hx; cases hx
theorem Took.noKind {l r f q l3 V : List UInt8} {wh : Bool} {x : UInt8} (h : Took l r f q wh l3) (hd : l3.drop 8 = x :: V) (hk : wh ≠ decide (255 - (x.toNat : Int) = 4)) : NoCell l := fun _ _ _ _ _ _ _ _ hr _ he => by
  obtain ⟨_, _, _, e1, _, _, y, e2, e3⟩ := h.inn hr he
  rw [hd] at e2
  injection e2 with e2 _
  subst e2
  rw [e3] at hk
  exact hk e1
/-- What of a cell is known by its bytes, but for the value. -/
theorem Took.rest {l r f q l3 V : List UInt8} {wh : Bool} {x : UInt8} (h : Took l r f q wh l3) (hd : l3.drop 8 = x :: V) {r' f' q' : List UInt8} {t k vk vn : Int} {vs : List UInt8} (hr : cRight r' f' q' t k vk vn vs = true) (he : cEnc r' f' q' t k vk vn vs = l) :
    r' = r ∧ f' = f ∧ q' = q ∧ t = 9223372036854775807 - (foldB (l3.take 8) : Int) ∧ k = 255 - (x.toNat : Int) ∧ vPart k vk vn vs = V := by
  obtain ⟨e1, e2, e3, _, _, e4, y, e5, e6⟩ := h.inn hr he
  rw [hd] at e5
  injection e5 with e5 e7
  subst e5
  exact ⟨e1, e2, e3, e4.symm, e6.symm, e7.symm⟩
theorem Took.noRest {l r f q l3 V : List UInt8} {wh : Bool} {x : UInt8} (h : Took l r f q wh l3) (hd : l3.drop 8 = x :: V) (hk : ¬ 255 - (x.toNat : Int) = 1) (hV : V ≠ []) : NoCell l := fun _ _ _ _ _ _ _ _ hr _ he => by
  obtain ⟨_, _, _, _, e1, e2⟩ := h.rest hd hr he
  unfold vPart at e2
  rw [if_neg (by omega)] at e2
  exact hV e2.symm
theorem Took.noVal {l r f q l3 V : List UInt8} {wh : Bool} {x : UInt8} (h : Took l r f q wh l3) (hd : l3.drop 8 = x :: V) (hk : 255 - (x.toNat : Int) = 1) (hV : vdecEnd V = noEnd) : NoCell l := fun _ _ _ _ _ vk vn vs hr hi he => by
  obtain ⟨_, _, _, _, e1, e2⟩ := h.rest hd hr he
  obtain ⟨_, _, _, _, _, _, _, _, _, _, p, _⟩ := cright_parts hr
  unfold vPart at e2
  rw [if_pos (by omega)] at e2
  have := vdec_enc hi (p (by omega))
  rw [e2, hV] at this
  unfold noEnd valEnd at this
  simp at this
theorem Took.noRightV {l r f q l3 V : List UInt8} {wh : Bool} {x : UInt8} (h : Took l r f q wh l3) (hd : l3.drop 8 = x :: V) (hk : 255 - (x.toNat : Int) = 1) {vk vn : Int} {vs : List UInt8} (hV : vdecEnd V = valEnd vk vn vs) (hr0 : cRight r f q (9223372036854775807 - (foldB (l3.take 8) : Int)) 1 vk vn vs = false) : NoCell l := fun _ _ _ _ _ vk' vn' vs' hr hi he => by
  obtain ⟨rfl, rfl, rfl, rfl, e1, e2⟩ := h.rest hd hr he
  obtain ⟨_, _, _, _, _, _, _, _, _, _, p, _⟩ := cright_parts hr
  unfold vPart at e2
  have hk1 := e1.trans hk
  rw [if_pos hk1] at e2
  have := vdec_enc hi (p hk1)
  rw [e2, hV] at this
  unfold valEnd at this
  simp at this
  obtain ⟨a, b, c⟩ := this
  rw [hk1, ← a, ← b, ← c, hr0] at hr
  cases hr
theorem Took.noRight {l r f q l3 : List UInt8} {wh : Bool} {x : UInt8} (h : Took l r f q wh l3) (hd : l3.drop 8 = [x]) (hk : ¬ 255 - (x.toNat : Int) = 1) (hr0 : cRight r f q (9223372036854775807 - (foldB (l3.take 8) : Int)) (255 - (x.toNat : Int)) 0 0 [] = false) : NoCell l := fun _ _ _ _ _ vk' vn' vs' hr hi he => by
  obtain ⟨rfl, rfl, rfl, rfl, e1, e2⟩ := h.rest hd hr he
  obtain ⟨_, _, _, _, _, _, _, _, _, _, _, p⟩ := cright_parts hr
  obtain ⟨rfl, rfl, rfl⟩ := p (by omega)
  rw [e1, hr0] at hr
  cases hr
/-- The cell of the parts has these bytes. -/
theorem Took.enc {l r f q l3 V : List UInt8} {wh : Bool} {x : UInt8} (h : Took l r f q wh l3) (h8 : 8 ≤ l3.length) (hd : l3.drop 8 = x :: V) (hk : wh = decide (255 - (x.toNat : Int) = 4)) {vk vn : Int} {vs : List UInt8} (hV : vPart (255 - (x.toNat : Int)) vk vn vs = V) :
    cEnc r f q (9223372036854775807 - (foldB (l3.take 8) : Int)) (255 - (x.toNat : Int)) vk vn vs = l := by
  obtain ⟨l1, l2, h1, h2, h3⟩ := h.ex
  rw [cEnc_form, rdT_rest h1, rdT_rest h2]
  have e3 : tailM (9223372036854775807 - (foldB (l3.take 8) : Int)) (255 - (x.toNat : Int)) ++ V = l3 := by
    unfold tailM
    have ex : UInt8.ofNat (255 - (255 - (x.toNat : Int))).toNat = x := by
      have : (255 - (255 - (x.toNat : Int))).toNat = x.toNat := by omega
      rw [this]; simp
    have eb : (9223372036854775807 - (9223372036854775807 - (foldB (l3.take 8) : Int))).toNat = foldB (l3.take 8) := by omega
    rw [ex, eb, byW_foldB 8 _ (by simp; omega), List.append_assoc]
    show l3.take 8 ++ (x :: V) = l3
    rw [← hd, List.take_append_drop]
  rw [hV, e3]
  congr 3
  · congr 3
    rcases h3 with ⟨rfl, rfl, rfl⟩ | ⟨rfl, h4, h5⟩
    · have : (255 - (x.toNat : Int)) = 4 := by simpa using hk.symm
      unfold midM
      rw [if_pos this]; rfl
    · have : ¬ (255 - (x.toNat : Int)) = 4 := by simpa using hk.symm
      unfold midM
      rw [if_neg this, rdT_rest h5]
      simp
/-- No two right cells have the same bytes. -/
theorem cEnc_one {r f q vs : List UInt8} {t k vk vn : Int} {r' f' q' vs' : List UInt8} {t' k' vk' vn' : Int} (h : cRight r f q t k vk vn vs = true) (h' : cRight r' f' q' t' k' vk' vn' vs' = true) (i : inI vn) (i' : inI vn') (he : cEnc r f q t k vk vn vs = cEnc r' f' q' t' k' vk' vn' vs') :
    r = r' ∧ f = f' ∧ q = q' ∧ t = t' ∧ k = k' ∧ vk = vk' ∧ vn = vn' ∧ vs = vs' := by
  obtain ⟨_, _, _, _, _, p1, p2, p3, p4, p5, p6, p7⟩ := cright_parts h
  obtain ⟨_, _, _, _, _, q1, q2, q3, q4, q5, q6, q7⟩ := cright_parts h'
  obtain ⟨rfl, rfl, e3⟩ := enc_in (enc_head rfl) (rdT_esc _ _) he
  have hm : Mid (midM q' k' ++ (tailM t' k' ++ vPart k' vk' vn' vs')) q' (tailM t' k' ++ vPart k' vk' vn' vs') (decide (k' = 4)) := by
    by_cases hk : k' = 4
    · refine .inl ⟨by simp [hk], q5 hk, ?_⟩
      unfold midM
      rw [if_pos hk]; rfl
    · refine .inr ⟨by simp [hk], ?_, mid_text hk⟩
      intro u e
      have := mid_text (q := q') (X := tailM t' k' ++ vPart k' vk' vn' vs') hk
      rw [e, rdT_two] at this; cases this
  obtain ⟨rfl, e4, e5⟩ := mid_in hm p5 e3
  obtain ⟨_, e6, x, e7, e8⟩ := tail_in p1 p2 p3 p4 e4
  obtain ⟨_, e9, y, e10, e11⟩ := tail_in q1 q2 q3 q4 (rfl : tailM t' k' ++ vPart k' vk' vn' vs' = _)
  have et : t = t' := by omega
  rw [e7] at e10
  injection e10 with e12 e13
  subst e12
  have ek : k = k' := by omega
  subst et ek
  unfold vPart at e13
  by_cases hk : k = 1
  · rw [if_pos hk, if_pos hk] at e13
    have a := vdec_enc i (p6 hk)
    have b := vdec_enc i' (q6 hk)
    rw [e13, b] at a
    unfold valEnd at a
    simp at a
    exact ⟨rfl, rfl, rfl, rfl, rfl, a.1.symm, a.2.1.symm, a.2.2.symm⟩
  · obtain ⟨rfl, rfl, rfl⟩ := p7 hk
    obtain ⟨rfl, rfl, rfl⟩ := q7 hk
    exact ⟨rfl, rfl, rfl, rfl, rfl, rfl, rfl, rfl⟩
end Go.Proofs.YtjbjdkginemedaaGreatDoor
