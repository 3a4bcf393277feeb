/- Several texts in one: NA CQ NB NC NF NVb NV. Conditions: as each theorem names them. -/
import Derived.Test.YtdgkbpplngjonaaDoorP1
import Derived.Test.YtdgkbpplngjonaaDoorP6
import Derived.Test.YtdgkbpplngjonaaDoorP7
import Derived.Test.YtdgkbpplngjonaaDoorII
import Derived.Deep.RegionHeld3
import Derived.RegionTactic
/- Numbers taken off bytes are what Num writes; how long two rows of bytes begin alike; a block's bytes. Conditions: as each theorem names them. -/
namespace Go.Proofs.YtdgkbpplngjonaaDoor

theorem tkGo_back (f : Nat) : ∀ i (l : List UInt8) n r, tkGo f i l = some (n, r) → l = numW n ++ r ∧ (n = 0 → i = 0) := by
  induction f with
  | zero => intro i l n r h; simp [tkGo] at h
  | succ f ih =>
    intro i l n r h
    cases l with
    | nil => simp [tkGo] at h
    | cons x t =>
      have hx := x.toNat_lt
      rw [tkGo] at h
      split at h
      · rename_i h1
        split at h
        · cases h
        · rename_i h2
          cases h
          refine ⟨?_, fun e => ?_⟩
          · rw [numW_small h1, UInt8.ofNat_toNat]
            rfl
          · false_or_by_contra
            exact h2 ⟨e, by assumption⟩
      · rename_i h1
        cases hm : tkGo f (i + 1) t with
        | none => rw [hm] at h; cases h
        | some p =>
          obtain ⟨m, s⟩ := p
          rw [hm] at h
          obtain ⟨h3, h4⟩ := ih _ _ _ _ hm
          simp only [Option.map_some, Option.some.injEq, Prod.mk.injEq] at h
          obtain ⟨hn, rfl⟩ := h
          have hm0 : m ≠ 0 := fun e => by have := h4 e; omega
          refine ⟨?_, fun e => by omega⟩
          rw [numW_big (by omega), show 128 + n % 128 = x.toNat by omega, show n / 128 = m by omega, UInt8.ofNat_toNat, h3]
          rfl
/-- What is taken off is what Num writes. -/
theorem tk_back {l r : List UInt8} {n : Nat} (h : tk l = some (n, r)) : l = numW n ++ r := (tkGo_back 9 0 l n r h).1
theorem tk_lt {l r : List UInt8} {n : Nat} (h : tk l = some (n, r)) : n < 9223372036854775808 := by
  obtain ⟨k, _, h2, _, _, h5⟩ := tkGo_rest 9 0 l n r h
  have : 128 ^ k ≤ 128 ^ 9 := Nat.pow_le_pow_right (by decide) h2
  have e : (128 : Nat) ^ 9 = 9223372036854775808 := by decide
  omega

/-- How long both begin alike. -/
def preL : List UInt8 → List UInt8 → Nat
  | a :: l, b :: m => if a = b then preL l m + 1 else 0
  | _, _ => 0
theorem preL_le : ∀ a b : List UInt8, preL a b ≤ a.length ∧ preL a b ≤ b.length
  | [], b => by simp [preL]
  | a :: l, [] => by simp [preL]
  | a :: l, b :: m => by
    have h := preL_le l m
    unfold preL
    split <;> simp only [List.length_cons] <;> omega
theorem preL_take : ∀ a b : List UInt8, a.take (preL a b) = b.take (preL a b)
  | [], b => by simp [preL]
  | a :: l, [] => by simp [preL]
  | a :: l, b :: m => by
    unfold preL
    split
    · rename_i h
      rw [List.take_succ_cons, List.take_succ_cons, h, preL_take l m]
    · rfl

/-- A cell's key, and its value's bytes. -/
def keyL (c : CT) : List UInt8 := keyM c.r.data.toList c.f.data.toList c.q.data.toList c.t c.k
def valL (c : CT) : List UInt8 := vEnc c.vk c.vn c.s.data.toList
def encB (c : CT) : List UInt8 := cEnc c.r.data.toList c.f.data.toList c.q.data.toList c.t c.k c.vk c.vn c.s.data.toList
theorem encB_is (c : CT) : encB c = keyL c ++ (if c.k = 1 then valL c else []) := rfl
/-- What is written of a cell, by the key ahead of it. -/
def oneB (a : List UInt8) (c : CT) : List UInt8 := numW (preL a (keyL c)) ++ (numW ((keyL c).length - preL a (keyL c)) ++ ((keyL c).drop (preL a (keyL c)) ++ (if c.k = 1 then numW (valL c).length ++ valL c else [])))
def restB : List UInt8 → List CT → List UInt8
  | _, [] => []
  | a, c :: l => oneB a c ++ restB (keyL c) l
/-- A block's bytes. -/
def blockB (l : List CT) : List UInt8 := numW l.length ++ restB [] l
/-- The cells are right, each one's key above the key ahead of it. -/
def fineK : List UInt8 → List CT → Bool
  | _, [] => true
  | a, c :: l => c.ok && (decide (Lib.compareBytes a (keyL c) < 0) && fineK (keyL c) l)

/-- A number of bytes, and these. -/
def cntT (l : List UInt8) : Option (List UInt8 × List UInt8) := match tk l with
  | none => none
  | some (n, r) => if n ≤ r.length then some (r.take n, r.drop n) else none
theorem cnt_yes {x r : List UInt8} (h : x.length < 9223372036854775808) : cntT (numW x.length ++ (x ++ r)) = some (x, r) := by
  unfold cntT
  rw [tk_num _ h]
  simp
theorem cnt_back {l x r : List UInt8} (h : cntT l = some (x, r)) : l = numW x.length ++ (x ++ r) := by
  unfold cntT at h
  cases ht : tk l with
  | none => rw [ht] at h; cases h
  | some p =>
    obtain ⟨n, s⟩ := p
    rw [ht] at h
    simp only at h
    split at h
    · rename_i hn
      cases h
      rw [tk_back ht, List.length_take, Nat.min_eq_left hn, List.take_append_drop]
    · cases h
/-- The next key, by the key ahead of it. -/
def keyT (a l : List UInt8) : Option (List UInt8 × List UInt8) := match tk l with
  | none => none
  | some (n, r) => match cntT r with
    | none => none
    | some (x, s) => if n ≤ a.length then (if preL a (a.take n ++ x) = n ∧ Lib.compareBytes a (a.take n ++ x) < 0 then some (a.take n ++ x, s) else none) else none
theorem keyT_yes {a k r : List UInt8} (hk : k.length < 9223372036854775808) (hlt : Lib.compareBytes a k < 0) : keyT a (numW (preL a k) ++ (numW (k.length - preL a k) ++ (k.drop (preL a k) ++ r))) = some (k, r) := by
  obtain ⟨h1, h2⟩ := preL_le a k
  have e : k.length - preL a k = (k.drop (preL a k)).length := by rw [List.length_drop]
  have e2 : a.take (preL a k) ++ k.drop (preL a k) = k := by rw [preL_take, List.take_append_drop]
  unfold keyT
  rw [tk_num _ (by omega)]
  simp only
  rw [e, cnt_yes (by rw [List.length_drop]; omega)]
  simp only
  rw [if_pos h1, e2, if_pos ⟨rfl, hlt⟩]
theorem keyT_back {a l k r : List UInt8} (h : keyT a l = some (k, r)) : Lib.compareBytes a k < 0 ∧ l = numW (preL a k) ++ (numW (k.length - preL a k) ++ (k.drop (preL a k) ++ r)) := by
  unfold keyT at h
  cases ht : tk l with
  | none => rw [ht] at h; cases h
  | some p =>
    obtain ⟨n, s⟩ := p
    rw [ht] at h
    simp only at h
    cases hc : cntT s with
    | none => rw [hc] at h; cases h
    | some q =>
      obtain ⟨x, t⟩ := q
      rw [hc] at h
      simp only at h
      split at h
      · rename_i hn
        split at h
        · rename_i hp
          cases h
          refine ⟨hp.2, ?_⟩
          rw [hp.1]
          have e1 : (a.take n).length = n := by rw [List.length_take]; omega
          have e2 : (a.take n ++ x).length - n = x.length := by rw [List.length_append, e1]; omega
          have e3 : (a.take n ++ x).drop n = x := by rw [List.drop_append_of_le_length (by omega), List.drop_of_length_le (by omega), List.nil_append]
          rw [e2, e3, tk_back ht, cnt_back hc]
        · cases h
      · cases h
end Go.Proofs.YtdgkbpplngjonaaDoor

/- Plain mathematics: whose bytes a row of bytes is: of one right cell, or of none. No program in it. -/
namespace Go.Proofs.YtdgkbpplngjonaaDoor
open Go.RowKit

/-- No right cell's bytes. -/
def NoCell (l : List UInt8) : Prop := ∀ r f q t k vk vn vs, cRight r f q t k vk vn vs = true → inI vn → cEnc r f q t k vk vn vs ≠ l
def vPart (k vk vn : Int) (vs : List UInt8) : List UInt8 := if k = 1 then vEnc vk vn vs else []
theorem cEnc_form (r f q : List UInt8) (t k vk vn : Int) (vs : List UInt8) : cEnc r f q t k vk vn vs = esc r ++ (0 :: 1 :: (esc f ++ (0 :: 1 :: (midM q k ++ (tailM t k ++ vPart k vk vn vs))))) := by
  unfold cEnc keyM vPart
  simp [List.append_assoc]
theorem enc_head {r f q : List UInt8} {t k vk vn : Int} {vs l : List UInt8} (h : cEnc r f q t k vk vn vs = l) : rdT l = some (r, esc f ++ (0 :: 1 :: (midM q k ++ (tailM t k ++ vPart k vk vn vs)))) := by
  rw [← h, cEnc_form]; exact rdT_esc _ _
theorem enc_in {r f q : List UInt8} {t k vk vn : Int} {vs l r' f' l1 l2 : List UInt8} (h1 : rdT l = some (r', l1)) (h2 : rdT l1 = some (f', l2)) (h : cEnc r f q t k vk vn vs = l) : r = r' ∧ f = f' ∧ midM q k ++ (tailM t k ++ vPart k vk vn vs) = l2 := by
  have h3 := enc_head h
  rw [h1] at h3
  simp only [Option.some.injEq, Prod.mk.injEq] at h3
  obtain ⟨rfl, rfl⟩ := h3
  rw [rdT_esc] at h2
  simp only [Option.some.injEq, Prod.mk.injEq] at h2
  obtain ⟨rfl, rfl⟩ := h2
  exact ⟨rfl, rfl, rfl⟩
theorem no_head {l : List UInt8} (h1 : rdT l = none) : NoCell l := by
  intro r f q t k vk vn vs _ _ h
  have := enc_head h
  rw [h1] at this; cases this
theorem no_fam {l r l1 : List UInt8} (h1 : rdT l = some (r, l1)) (h2 : rdT l1 = none) : NoCell l := by
  intro r' f q t k vk vn vs _ _ h
  have := enc_head h
  rw [h1] at this
  simp only [Option.some.injEq, Prod.mk.injEq] at this
  obtain ⟨rfl, rfl⟩ := this
  rw [rdT_esc] at h2; cases h2

theorem rdT_two (l : List UInt8) : rdT (0 :: 0 :: l) = none := by
  rw [rdT, if_pos rfl, if_neg (by decide), if_neg (by decide)]
theorem mid_text {q X : List UInt8} {k : Int} (hk : ¬ k = 4) : rdT (midM q k ++ X) = some (q, X) := by
  unfold midM
  rw [if_neg hk, List.append_assoc]
  exact rdT_esc q X
/-- What stands behind the family's name: whole, the qualifier, the rest. -/
def Mid (l2 q l3 : List UInt8) (wh : Bool) : Prop := (wh = true ∧ q = [] ∧ l2 = 0 :: 0 :: l3) ∨ (wh = false ∧ (∀ r, l2 ≠ 0 :: 0 :: r) ∧ rdT l2 = some (q, l3))
theorem mid_in {l2 q q' l3 X : List UInt8} {wh : Bool} {k : Int} (hm : Mid l2 q' l3 wh) (h4 : k = 4 → q = []) (h : midM q k ++ X = l2) : q = q' ∧ X = l3 ∧ wh = decide (k = 4) := by
  by_cases hk : k = 4
  · rcases hm with ⟨rfl, rfl, h2⟩ | ⟨_, h2, _⟩
    · unfold midM at h
      rw [if_pos hk, h2] at h
      refine ⟨h4 hk, ?_, by simp [hk]⟩
      simpa using h
    · exfalso
      unfold midM at h
      rw [if_pos hk] at h
      exact h2 X h.symm
  · have ht := mid_text (q := q) (X := X) hk
    rw [h] at ht
    rcases hm with ⟨_, _, h2⟩ | ⟨rfl, _, h3⟩
    · rw [h2, rdT_two] at ht; cases ht
    · rw [h3] at ht
      simp only [Option.some.injEq, Prod.mk.injEq] at ht
      exact ⟨ht.1.symm, ht.2.symm, by simp [hk]⟩
theorem mid_none {l2 q X : List UInt8} {k : Int} (h2 : ∀ r, l2 ≠ 0 :: 0 :: r) (h3 : rdT l2 = none) : midM q k ++ X ≠ l2 := by
  intro h
  by_cases hk : k = 4
  · unfold midM at h
    rw [if_pos hk] at h
    exact h2 X h.symm
  · have ht := mid_text (q := q) (X := X) hk
    rw [h, h3] at ht; cases ht
theorem no_qual {l r l1 f l2 : List UInt8} (h1 : rdT l = some (r, l1)) (h2 : rdT l1 = some (f, l2)) (h3 : ∀ r, l2 ≠ 0 :: 0 :: r) (h4 : rdT l2 = none) : NoCell l := by
  intro r' f' q t k vk vn vs _ _ h
  exact mid_none h3 h4 (enc_in h1 h2 h).2.2
theorem tail_in {t k : Int} {V l3 : List UInt8} (h1 : 0 ≤ t) (h2 : t ≤ 1099511627776) (h3 : 1 ≤ k) (h4 : k ≤ 4) (h : tailM t k ++ V = l3) :
    8 ≤ l3.length ∧ 9223372036854775807 - (foldB (l3.take 8) : Int) = t ∧ ∃ x, l3.drop 8 = x :: V ∧ 255 - (x.toNat : Int) = k := by
  have e8 : (byW 8 (9223372036854775807 - t).toNat).length = 8 := byW_len 8 _
  have p8 : (256 : Nat) ^ 8 = 18446744073709551616 := by decide
  subst h
  unfold tailM
  rw [List.append_assoc]
  refine ⟨by rw [List.length_append, e8]; omega, ?_, UInt8.ofNat (255 - k).toNat, ?_, ?_⟩
  · rw [List.take_append_of_le_length (by omega), List.take_of_length_le (by omega), foldB_byW 8 _ (by rw [p8]; omega)]
    omega
  · rw [List.drop_append_of_le_length (by omega), List.drop_of_length_le (by omega)]
    rfl
  · rw [UInt8.toNat_ofNat']; omega
/-- The parts that a reader has taken off bytes. -/
structure Took (l r f q : List UInt8) (wh : Bool) (l3 : List UInt8) : Prop where
  ex : ∃ l1 l2, rdT l = some (r, l1) ∧ rdT l1 = some (f, l2) ∧ Mid l2 q l3 wh
theorem Took.inn {l r f q l3 : List UInt8} {wh : Bool} (h : Took l r f q wh l3) {r' f' q' : List UInt8} {t k vk vn : Int} {vs : List UInt8} (hr : cRight r' f' q' t k vk vn vs = true) (he : cEnc r' f' q' t k vk vn vs = l) :
    r' = r ∧ f' = f ∧ q' = q ∧ wh = decide (k = 4) ∧ 8 ≤ l3.length ∧ 9223372036854775807 - (foldB (l3.take 8) : Int) = t ∧ ∃ x, l3.drop 8 = x :: vPart k vk vn vs ∧ 255 - (x.toNat : Int) = k := by
  obtain ⟨l1, l2, h1, h2, h3⟩ := h.ex
  obtain ⟨_, _, _, _, _, p1, p2, p3, p4, p5, _, _⟩ := cright_parts hr
  obtain ⟨e1, e2, e3⟩ := enc_in h1 h2 he
  obtain ⟨e4, e5, e6⟩ := mid_in h3 p5 e3
  obtain ⟨e7, e8, e9⟩ := tail_in p1 p2 p3 p4 e5
  exact ⟨e1, e2, e4, e6, e7, e8, e9⟩
theorem Took.no8 {l r f q l3 : List UInt8} {wh : Bool} (h : Took l r f q wh l3) (h8 : ¬ 8 ≤ l3.length) : NoCell l := fun _ _ _ _ _ _ _ _ hr _ he => h8 (h.inn hr he).2.2.2.2.1
theorem Took.no9 {l r f q l3 : List UInt8} {wh : Bool} (h : Took l r f q wh l3) (h8 : l3.drop 8 = []) : NoCell l := fun _ _ _ _ _ _ _ _ hr _ he => by
  obtain ⟨x, hx, _⟩ := (h.inn hr he).2.2.2.2.2.2
  rw [h8] at hx; cases hx
theorem Took.noKind {l r f q l3 V : List UInt8} {wh : Bool} {x : UInt8} (h : Took l r f q wh l3) (hd : l3.drop 8 = x :: V) (hk : wh ≠ decide (255 - (x.toNat : Int) = 4)) : NoCell l := fun _ _ _ _ _ _ _ _ hr _ he => by
  obtain ⟨_, _, _, e1, _, _, y, e2, e3⟩ := h.inn hr he
  rw [hd] at e2
  injection e2 with e2 _
  subst e2
  rw [e3] at hk
  exact hk e1
/-- What of a cell is known by its bytes, but for the value. -/
theorem Took.rest {l r f q l3 V : List UInt8} {wh : Bool} {x : UInt8} (h : Took l r f q wh l3) (hd : l3.drop 8 = x :: V) {r' f' q' : List UInt8} {t k vk vn : Int} {vs : List UInt8} (hr : cRight r' f' q' t k vk vn vs = true) (he : cEnc r' f' q' t k vk vn vs = l) :
    r' = r ∧ f' = f ∧ q' = q ∧ t = 9223372036854775807 - (foldB (l3.take 8) : Int) ∧ k = 255 - (x.toNat : Int) ∧ vPart k vk vn vs = V := by
  obtain ⟨e1, e2, e3, _, _, e4, y, e5, e6⟩ := h.inn hr he
  rw [hd] at e5
  injection e5 with e5 e7
  subst e5
  exact ⟨e1, e2, e3, e4.symm, e6.symm, e7.symm⟩
theorem Took.noRest {l r f q l3 V : List UInt8} {wh : Bool} {x : UInt8} (h : Took l r f q wh l3) (hd : l3.drop 8 = x :: V) (hk : ¬ 255 - (x.toNat : Int) = 1) (hV : V ≠ []) : NoCell l := fun _ _ _ _ _ _ _ _ hr _ he => by
  obtain ⟨_, _, _, _, e1, e2⟩ := h.rest hd hr he
  unfold vPart at e2
  rw [if_neg (by omega)] at e2
  exact hV e2.symm
theorem Took.noVal {l r f q l3 V : List UInt8} {wh : Bool} {x : UInt8} (h : Took l r f q wh l3) (hd : l3.drop 8 = x :: V) (hk : 255 - (x.toNat : Int) = 1) (hV : vdecEnd V = noEnd) : NoCell l := fun _ _ _ _ _ vk vn vs hr hi he => by
  obtain ⟨_, _, _, _, e1, e2⟩ := h.rest hd hr he
  obtain ⟨_, _, _, _, _, _, _, _, _, _, p, _⟩ := cright_parts hr
  unfold vPart at e2
  rw [if_pos (by omega)] at e2
  have := vdec_enc hi (p (by omega))
  rw [e2, hV] at this
  unfold noEnd valEnd at this
  simp at this
theorem Took.noRightV {l r f q l3 V : List UInt8} {wh : Bool} {x : UInt8} (h : Took l r f q wh l3) (hd : l3.drop 8 = x :: V) (hk : 255 - (x.toNat : Int) = 1) {vk vn : Int} {vs : List UInt8} (hV : vdecEnd V = valEnd vk vn vs) (hr0 : cRight r f q (9223372036854775807 - (foldB (l3.take 8) : Int)) 1 vk vn vs = false) : NoCell l := fun _ _ _ _ _ vk' vn' vs' hr hi he => by
  obtain ⟨rfl, rfl, rfl, rfl, e1, e2⟩ := h.rest hd hr he
  obtain ⟨_, _, _, _, _, _, _, _, _, _, p, _⟩ := cright_parts hr
  unfold vPart at e2
  have hk1 := e1.trans hk
  rw [if_pos hk1] at e2
  have := vdec_enc hi (p hk1)
  rw [e2, hV] at this
  unfold valEnd at this
  simp at this
  obtain ⟨a, b, c⟩ := this
  rw [hk1, ← a, ← b, ← c, hr0] at hr
  cases hr
theorem Took.noRight {l r f q l3 : List UInt8} {wh : Bool} {x : UInt8} (h : Took l r f q wh l3) (hd : l3.drop 8 = [x]) (hk : ¬ 255 - (x.toNat : Int) = 1) (hr0 : cRight r f q (9223372036854775807 - (foldB (l3.take 8) : Int)) (255 - (x.toNat : Int)) 0 0 [] = false) : NoCell l := fun _ _ _ _ _ vk' vn' vs' hr hi he => by
  obtain ⟨rfl, rfl, rfl, rfl, e1, e2⟩ := h.rest hd hr he
  obtain ⟨_, _, _, _, _, _, _, _, _, _, _, p⟩ := cright_parts hr
  obtain ⟨rfl, rfl, rfl⟩ := p (by omega)
  rw [e1, hr0] at hr
  cases hr
/-- The cell of the parts has these bytes. -/
theorem Took.enc {l r f q l3 V : List UInt8} {wh : Bool} {x : UInt8} (h : Took l r f q wh l3) (h8 : 8 ≤ l3.length) (hd : l3.drop 8 = x :: V) (hk : wh = decide (255 - (x.toNat : Int) = 4)) {vk vn : Int} {vs : List UInt8} (hV : vPart (255 - (x.toNat : Int)) vk vn vs = V) :
    cEnc r f q (9223372036854775807 - (foldB (l3.take 8) : Int)) (255 - (x.toNat : Int)) vk vn vs = l := by
  obtain ⟨l1, l2, h1, h2, h3⟩ := h.ex
  rw [cEnc_form, rdT_rest h1, rdT_rest h2]
  have e3 : tailM (9223372036854775807 - (foldB (l3.take 8) : Int)) (255 - (x.toNat : Int)) ++ V = l3 := by
    unfold tailM
    have ex : UInt8.ofNat (255 - (255 - (x.toNat : Int))).toNat = x := by
      have : (255 - (255 - (x.toNat : Int))).toNat = x.toNat := by omega
      rw [this]; simp
    have eb : (9223372036854775807 - (9223372036854775807 - (foldB (l3.take 8) : Int))).toNat = foldB (l3.take 8) := by omega
    rw [ex, eb, byW_foldB 8 _ (by simp; omega), List.append_assoc]
    show l3.take 8 ++ (x :: V) = l3
    rw [← hd, List.take_append_drop]
  rw [hV, e3]
  congr 3
  · congr 3
    rcases h3 with ⟨rfl, rfl, rfl⟩ | ⟨rfl, h4, h5⟩
    · have : (255 - (x.toNat : Int)) = 4 := by simpa using hk.symm
      unfold midM
      rw [if_pos this]; rfl
    · have : ¬ (255 - (x.toNat : Int)) = 4 := by simpa using hk.symm
      unfold midM
      rw [if_neg this, rdT_rest h5]
      simp
/-- No two right cells have the same bytes. -/
theorem cEnc_one {r f q vs : List UInt8} {t k vk vn : Int} {r' f' q' vs' : List UInt8} {t' k' vk' vn' : Int} (h : cRight r f q t k vk vn vs = true) (h' : cRight r' f' q' t' k' vk' vn' vs' = true) (i : inI vn) (i' : inI vn') (he : cEnc r f q t k vk vn vs = cEnc r' f' q' t' k' vk' vn' vs') :
    r = r' ∧ f = f' ∧ q = q' ∧ t = t' ∧ k = k' ∧ vk = vk' ∧ vn = vn' ∧ vs = vs' := by
  obtain ⟨_, _, _, _, _, p1, p2, p3, p4, p5, p6, p7⟩ := cright_parts h
  obtain ⟨_, _, _, _, _, q1, q2, q3, q4, q5, q6, q7⟩ := cright_parts h'
  obtain ⟨rfl, rfl, e3⟩ := enc_in (enc_head rfl) (rdT_esc _ _) he
  have hm : Mid (midM q' k' ++ (tailM t' k' ++ vPart k' vk' vn' vs')) q' (tailM t' k' ++ vPart k' vk' vn' vs') (decide (k' = 4)) := by
    by_cases hk : k' = 4
    · refine .inl ⟨by simp [hk], q5 hk, ?_⟩
      unfold midM
      rw [if_pos hk]; rfl
    · refine .inr ⟨by simp [hk], ?_, mid_text hk⟩
      intro u e
      have := mid_text (q := q') (X := tailM t' k' ++ vPart k' vk' vn' vs') hk
      rw [e, rdT_two] at this; cases this
  obtain ⟨rfl, e4, e5⟩ := mid_in hm p5 e3
  obtain ⟨_, e6, x, e7, e8⟩ := tail_in p1 p2 p3 p4 e4
  obtain ⟨_, e9, y, e10, e11⟩ := tail_in q1 q2 q3 q4 (rfl : tailM t' k' ++ vPart k' vk' vn' vs' = _)
  have et : t = t' := by omega
  rw [e7] at e10
  injection e10 with e12 e13
  subst e12
  have ek : k = k' := by omega
  subst et ek
  unfold vPart at e13
  by_cases hk : k = 1
  · rw [if_pos hk, if_pos hk] at e13
    have a := vdec_enc i (p6 hk)
    have b := vdec_enc i' (q6 hk)
    rw [e13, b] at a
    unfold valEnd at a
    simp at a
    exact ⟨rfl, rfl, rfl, rfl, rfl, a.1.symm, a.2.1.symm, a.2.2.symm⟩
  · obtain ⟨rfl, rfl, rfl⟩ := p7 hk
    obtain ⟨rfl, rfl, rfl⟩ := q7 hk
    exact ⟨rfl, rfl, rfl, rfl, rfl, rfl, rfl, rfl⟩
end Go.Proofs.YtdgkbpplngjonaaDoor

/- Of bytes at most one row of right cells is read, and none of a beginning. Conditions: as each theorem names them. -/
namespace Go.Proofs.YtdgkbpplngjonaaDoor

/-- A cell that a block may hold. -/
def Bc (c : CT) : Prop := c.ok = true ∧ inI c.vn ∧ c.s.size ≤ 1000
theorem bc_small {c : CT} (h : Bc c) : (keyL c).length ≤ 3000 ∧ (valL c).length ≤ 3000 := by
  obtain ⟨_, h2, _, h4, h5, _⟩ := cright_parts h.1
  have h1 := esc_len c.r.data.toList
  have h3 := esc_len c.f.data.toList
  have h6 := esc_len c.q.data.toList
  have h7 := esc_len c.s.data.toList
  have e4 : c.s.data.toList.length = c.s.size := rfl
  have hs := h.2.2
  constructor
  · unfold keyL keyM midM
    split <;> (simp only [List.length_append, List.length_cons, List.length_nil, tail_len]; omega)
  · unfold valL vEnc vBody
    repeat' split
    all_goals (simp only [List.length_append, List.length_cons, List.length_nil, byW_len]; omega)
theorem keyL_last (c : CT) : (keyL c).getLast? = some (UInt8.ofNat (255 - c.k).toNat) := by
  unfold keyL keyM tailM
  simp only [← List.append_assoc]
  exact List.getLast?_concat
theorem key_kind {c d : CT} (hc : c.ok = true) (hd : d.ok = true) (h : keyL c = keyL d) : c.k = d.k := by
  obtain ⟨_, _, _, _, _, _, _, p1, p4, _⟩ := cright_parts hc
  obtain ⟨_, _, _, _, _, _, _, q1, q4, _⟩ := cright_parts hd
  have e := keyL_last c
  rw [h, keyL_last d] at e
  have e2 := congrArg UInt8.toNat (Option.some.inj e)
  rw [UInt8.toNat_ofNat', UInt8.toNat_ofNat'] at e2
  omega
theorem ct_ext {c d : CT} (h1 : c.r.data.toList = d.r.data.toList) (h2 : c.f.data.toList = d.f.data.toList) (h3 : c.q.data.toList = d.q.data.toList) (h4 : c.t = d.t) (h5 : c.k = d.k) (h6 : c.vk = d.vk) (h7 : c.vn = d.vn) (h8 : c.s.data.toList = d.s.data.toList) : c = d := by
  have ba : ∀ {x y : ByteArray}, x.data.toList = y.data.toList → x = y := fun {x y} h => by
    cases x; cases y
    exact congrArg ByteArray.mk (Array.toList_inj.1 h)
  cases c; cases d
  simp only at h1 h2 h3 h4 h5 h6 h7 h8
  rw [ba h1, ba h2, ba h3, ba h8, h4, h5, h6, h7]
theorem enc_one {c d : CT} (hc : Bc c) (hd : Bc d) (h : encB c = encB d) : c = d := by
  obtain ⟨e1, e2, e3, e4, e5, e6, e7, e8⟩ := cEnc_one hc.1 hd.1 hc.2.1 hd.2.1 h
  exact ct_ext e1 e2 e3 e4 e5 e6 e7 e8
/-- What stands behind the key. -/
def vpB (c : CT) : List UInt8 := if c.k = 1 then numW (valL c).length ++ valL c else []
theorem oneB_app (a : List UInt8) (c : CT) (r : List UInt8) : oneB a c ++ r = numW (preL a (keyL c)) ++ (numW ((keyL c).length - preL a (keyL c)) ++ ((keyL c).drop (preL a (keyL c)) ++ (vpB c ++ r))) := by
  unfold oneB vpB
  simp only [List.append_assoc]
theorem one_key {a r : List UInt8} {c : CT} (h : Bc c) (hlt : Lib.compareBytes a (keyL c) < 0) : keyT a (oneB a c ++ r) = some (keyL c, vpB c ++ r) := by
  rw [oneB_app]
  exact keyT_yes (by have := (bc_small h).1; omega) hlt
theorem one_one {a r s : List UInt8} {c d : CT} (hc : Bc c) (hd : Bc d) (h1 : Lib.compareBytes a (keyL c) < 0) (h2 : Lib.compareBytes a (keyL d) < 0) (h : oneB a c ++ r = oneB a d ++ s) : c = d ∧ r = s := by
  have k1 := one_key (r := r) hc h1
  rw [h, one_key hd h2] at k1
  have k2 := Option.some.inj k1
  have e1 : keyL d = keyL c := congrArg Prod.fst k2
  have e2 : vpB d ++ s = vpB c ++ r := congrArg Prod.snd k2
  have ek := key_kind hc.1 hd.1 e1.symm
  by_cases hk : c.k = 1
  · have hk2 : d.k = 1 := by omega
    unfold vpB at e2
    rw [if_pos hk, if_pos hk2, List.append_assoc, List.append_assoc] at e2
    have c1 := cnt_yes (x := valL c) (r := r) (by have := (bc_small hc).2; omega)
    rw [← e2, cnt_yes (by have := (bc_small hd).2; omega)] at c1
    have c2 := Option.some.inj c1
    have v1 : valL d = valL c := congrArg Prod.fst c2
    have v2 : s = r := congrArg Prod.snd c2
    refine ⟨enc_one hc hd ?_, v2.symm⟩
    rw [encB_is, encB_is, if_pos hk, if_pos hk2, e1, v1]
  · have hk2 : ¬ d.k = 1 := by omega
    unfold vpB at e2
    rw [if_neg hk, if_neg hk2, List.nil_append, List.nil_append] at e2
    refine ⟨enc_one hc hd ?_, e2.symm⟩
    rw [encB_is, encB_is, if_neg hk, if_neg hk2, e1]
theorem fineK_cons {a : List UInt8} {c : CT} {l : List CT} (h : fineK a (c :: l) = true) : c.ok = true ∧ Lib.compareBytes a (keyL c) < 0 ∧ fineK (keyL c) l = true := by
  unfold fineK at h
  simp only [Bool.and_eq_true, decide_eq_true_eq] at h
  exact h
theorem rest_one : ∀ (l m : List CT) (a r s : List UInt8), l.length = m.length → (∀ c ∈ l, Bc c) → (∀ c ∈ m, Bc c) → fineK a l = true → fineK a m = true → restB a l ++ r = restB a m ++ s → l = m ∧ r = s
  | [], [], a, r, s, _, _, _, _, _, h => ⟨rfl, h⟩
  | [], _ :: _, a, r, s, hl, _, _, _, _, _ => by cases hl
  | _ :: _, [], a, r, s, hl, _, _, _, _, _ => by cases hl
  | c :: l, d :: m, a, r, s, hl, hc, hd, f1, f2, h => by
    obtain ⟨_, p2, p3⟩ := fineK_cons f1
    obtain ⟨_, q2, q3⟩ := fineK_cons f2
    have h' : oneB a c ++ (restB (keyL c) l ++ r) = oneB a d ++ (restB (keyL d) m ++ s) := by
      rw [← List.append_assoc, ← List.append_assoc]
      exact h
    obtain ⟨e1, e2⟩ := one_one (hc c List.mem_cons_self) (hd d List.mem_cons_self) p2 q2 h'
    subst e1
    obtain ⟨e3, e4⟩ := rest_one l m (keyL c) r s (by simpa using hl) (fun x hx => hc x (List.mem_cons_of_mem _ hx)) (fun x hx => hd x (List.mem_cons_of_mem _ hx)) p3 q3 e2
    exact ⟨by rw [e3], e4⟩
/-- Bytes that go on behind a block are no block's but the same one's, with nothing behind. -/
theorem block_one {l m : List CT} {r : List UInt8} (hl : l.length < 9223372036854775808) (hm : m.length < 9223372036854775808) (hc : ∀ c ∈ l, Bc c) (hd : ∀ c ∈ m, Bc c) (f1 : fineK [] l = true) (f2 : fineK [] m = true) (h : blockB l ++ r = blockB m) : l = m ∧ r = [] := by
  unfold blockB at h
  rw [List.append_assoc] at h
  have t1 := tk_num l.length hl (restB [] l ++ r)
  rw [h, tk_num m.length hm] at t1
  have t2 := Option.some.inj t1
  have e1 : m.length = l.length := congrArg Prod.fst t2
  have e2 : restB [] m = restB [] l ++ r := congrArg Prod.snd t2
  have e3 := rest_one l m [] r [] e1.symm hc hd f1 f2 (by rw [List.append_nil]; exact e2.symm)
  exact e3
end Go.Proofs.YtdgkbpplngjonaaDoor

/- Keys stand as their cells do; what fineK says, in the cells' order. Conditions: as each theorem names them. -/
namespace Go.Proofs.YtdgkbpplngjonaaDoor

theorem lexC_cmp : ∀ a b : List UInt8, lexC a b ≠ 0 → Lib.compareBytes a b = lexC a b
  | [], _, h => by simp [lexC] at h
  | _ :: _, [], h => by simp [lexC] at h
  | a :: l, b :: m, h => by
    unfold lexC at h ⊢
    unfold Lib.compareBytes
    simp only [UInt8.lt_iff_toNat_lt]
    split
    · rfl
    · split
      · rfl
      · rename_i h1 h2
        rw [if_neg h1, if_neg h2] at h
        exact lexC_cmp l m h
theorem cmpB_refl : ∀ a : List UInt8, Lib.compareBytes a a = 0
  | [] => rfl
  | a :: l => by
    unfold Lib.compareBytes
    rw [if_neg (by simp), if_neg (by simp)]
    exact cmpB_refl l
theorem key_cmp {c d : CT} (hc : c.ok = true) (hd : d.ok = true) : Lib.compareBytes (keyL c) (keyL d) = CT.cmp c d := by
  have h := key_lex hc hd
  by_cases h0 : CT.cmp c d = 0
  · obtain ⟨e1, e2, e3, e4, e5⟩ := cOrd_zero h0
    rw [h0]
    have e : keyL c = keyL d := by unfold keyL; rw [e1, e2, e3, e4, e5]
    rw [e]
    exact cmpB_refl _
  · have h1 : lexC (keyL c) (keyL d) = CT.cmp c d := h
    rw [← h1] at h0 ⊢
    exact lexC_cmp _ _ h0
theorem key_first {c : CT} : Lib.compareBytes [] (keyL c) < 0 := by
  have h := keyL_last c
  cases hk : keyL c with
  | nil => rw [hk] at h; cases h
  | cons x t => unfold Lib.compareBytes; decide
theorem fineK_step : ∀ (l : List CT) (c : CT), c.ok = true → (fineK (keyL c) l = true ↔ (∀ d ∈ l, d.ok = true) ∧ (c :: l).Pairwise (fun x y => CT.cmp x y < 0))
  | [], c, _ => by simp [fineK]
  | d :: l, c, hc => by
    unfold fineK
    simp only [Bool.and_eq_true, decide_eq_true_eq]
    constructor
    · rintro ⟨hd, h1, h2⟩
      rw [key_cmp hc hd] at h1
      obtain ⟨h3, h4⟩ := (fineK_step l d hd).1 h2
      refine ⟨fun x hx => ?_, ?_⟩
      · rcases List.mem_cons.1 hx with rfl | hx
        · exact hd
        · exact h3 x hx
      · refine List.pairwise_cons.2 ⟨fun x hx => ?_, h4⟩
        rcases List.mem_cons.1 hx with rfl | hx
        · exact h1
        · have h5 := (List.pairwise_cons.1 h4).1 x hx
          exact ct_c3.lt_le (x := c) (y := d) (z := x) h1 (by omega)
    · rintro ⟨h1, h2⟩
      have hd := h1 d List.mem_cons_self
      obtain ⟨h3, h4⟩ := List.pairwise_cons.1 h2
      refine ⟨hd, ?_, (fineK_step l d hd).2 ⟨fun x hx => h1 x (List.mem_cons_of_mem _ hx), h4⟩⟩
      rw [key_cmp hc hd]
      exact h3 d List.mem_cons_self
/-- Right cells, in order, no two of one place. -/
theorem fineK_iff (l : List CT) : fineK [] l = true ↔ (∀ d ∈ l, d.ok = true) ∧ l.Pairwise (fun x y => CT.cmp x y < 0) := by
  cases l with
  | nil => simp [fineK]
  | cons c l =>
    unfold fineK
    simp only [Bool.and_eq_true, decide_eq_true_eq]
    constructor
    · rintro ⟨hc, _, h⟩
      obtain ⟨h1, h2⟩ := (fineK_step l c hc).1 h
      refine ⟨fun x hx => ?_, h2⟩
      rcases List.mem_cons.1 hx with rfl | hx
      · exact hc
      · exact h1 x hx
    · rintro ⟨h1, h2⟩
      have hc := h1 c List.mem_cons_self
      exact ⟨hc, key_first, (fineK_step l c hc).2 ⟨fun x hx => h1 x (List.mem_cons_of_mem _ hx), h2⟩⟩
end Go.Proofs.YtdgkbpplngjonaaDoor

/- Plain mathematics: a block read cell by cell; whose bytes none are; cells in parts. Conditions: as each theorem names them. -/
namespace Go.Proofs.YtdgkbpplngjonaaDoor

/-- No right cell stands next, behind a key. -/
def NoOne (a l : List UInt8) : Prop := ∀ (c : CT) (r : List UInt8), Bc c → Lib.compareBytes a (keyL c) < 0 → l ≠ oneB a c ++ r
/-- No block's bytes. -/
def NoBlock (l : List UInt8) : Prop := ∀ cs : List CT, (∀ c ∈ cs, Bc c) → fineK [] cs = true → cs.length ≤ 1000 → blockB cs ≠ l
/-- The key of the last one of some cells. -/
def lastK (a : List UInt8) : List CT → List UInt8
  | [] => a
  | c :: l => lastK (keyL c) l
theorem lastK_snoc : ∀ (a : List UInt8) (l : List CT) (c : CT), lastK a (l ++ [c]) = keyL c
  | _, [], _ => rfl
  | _, d :: l, c => lastK_snoc (keyL d) l c
theorem restB_snoc : ∀ (a : List UInt8) (l : List CT) (c : CT), restB a (l ++ [c]) = restB a l ++ oneB (lastK a l) c
  | a, [], c => by
    show oneB a c ++ [] = [] ++ oneB a c
    rw [List.append_nil, List.nil_append]
  | a, d :: l, c => by
    show oneB a d ++ restB (keyL d) (l ++ [c]) = (oneB a d ++ restB (keyL d) l) ++ oneB (lastK (keyL d) l) c
    rw [restB_snoc (keyL d) l c, List.append_assoc]
theorem fineK_snoc : ∀ (a : List UInt8) (l : List CT) (c : CT), fineK a (l ++ [c]) = (fineK a l && (c.ok && decide (Lib.compareBytes (lastK a l) (keyL c) < 0)))
  | a, [], c => by
    show (c.ok && (decide (Lib.compareBytes a (keyL c) < 0) && true)) = (true && (c.ok && decide (Lib.compareBytes a (keyL c) < 0)))
    rw [Bool.and_true, Bool.true_and]
  | a, d :: l, c => by
    show (d.ok && (decide (Lib.compareBytes a (keyL d) < 0) && fineK (keyL d) (l ++ [c]))) = ((d.ok && (decide (Lib.compareBytes a (keyL d) < 0) && fineK (keyL d) l)) && (c.ok && decide (Lib.compareBytes (lastK (keyL d) l) (keyL c) < 0)))
    rw [fineK_snoc (keyL d) l c]
    cases d.ok <;> cases decide (Lib.compareBytes a (keyL d) < 0) <;> simp
/-- Of cells whose bytes begin with some cells' the first ones are these. -/
theorem rest_pre : ∀ (l m : List CT) (a r : List UInt8), l.length ≤ m.length → (∀ c ∈ l, Bc c) → (∀ c ∈ m, Bc c) → fineK a l = true → fineK a m = true → restB a l ++ r = restB a m → ∃ n, m = l ++ n ∧ r = restB (lastK a l) n ∧ fineK (lastK a l) n = true
  | [], m, a, r, _, _, _, _, f2, h => ⟨m, rfl, h, f2⟩
  | _ :: _, [], a, r, hl, _, _, _, _, _ => by simp at hl
  | c :: l, d :: m, a, r, hl, hc, hd, f1, f2, h => by
    obtain ⟨_, p2, p3⟩ := fineK_cons f1
    obtain ⟨_, q2, q3⟩ := fineK_cons f2
    have h' : oneB a c ++ (restB (keyL c) l ++ r) = oneB a d ++ restB (keyL d) m := by
      rw [← List.append_assoc]
      exact h
    obtain ⟨e1, e2⟩ := one_one (hc c List.mem_cons_self) (hd d List.mem_cons_self) p2 q2 h'
    subst e1
    obtain ⟨n, e3, e4, e5⟩ := rest_pre l m (keyL c) r (by simpa using hl) (fun x hx => hc x (List.mem_cons_of_mem _ hx)) (fun x hx => hd x (List.mem_cons_of_mem _ hx)) p3 q3 e2
    exact ⟨n, by rw [e3]; rfl, e4, e5⟩
/-- What Parse has read: some cells, and what is left. -/
structure ReadI (l : List UInt8) (n : Nat) (cs : List CT) (rest : List UInt8) : Prop where
  le : cs.length ≤ n
  n1 : n ≤ 1000
  bc : ∀ c ∈ cs, Bc c
  fine : fineK [] cs = true
  eq : l = numW n ++ (restB [] cs ++ rest)
theorem read_start {l r : List UInt8} {n : Nat} (h : tk l = some (n, r)) (hn : n ≤ 1000) : ReadI l n [] r := ⟨Nat.zero_le _, hn, fun c hc => (by cases hc), rfl, tk_back h⟩
theorem read_next {l rest r : List UInt8} {n : Nat} {cs : List CT} {c : CT} (h : ReadI l n cs rest) (hlt : cs.length < n) (hc : Bc c) (hk : Lib.compareBytes (lastK [] cs) (keyL c) < 0) (e : rest = oneB (lastK [] cs) c ++ r) : ReadI l n (cs ++ [c]) r := by
  refine ⟨by rw [List.length_append, List.length_singleton]; omega, h.n1, fun x hx => ?_, ?_, ?_⟩
  · rcases List.mem_append.1 hx with hx | hx
    · exact h.bc x hx
    · rw [List.mem_singleton.1 hx]; exact hc
  · rw [fineK_snoc, h.fine, hc.1, decide_eq_true hk]; rfl
  · rw [restB_snoc, h.eq, e, List.append_assoc]
theorem read_pre {l rest : List UInt8} {n : Nat} {cs ds : List CT} (h : ReadI l n cs rest) (hd : ∀ c ∈ ds, Bc c) (f : fineK [] ds = true) (hl : ds.length ≤ 1000) (e : blockB ds = l) : ds.length = n ∧ ∃ m, ds = cs ++ m ∧ rest = restB (lastK [] cs) m ∧ fineK (lastK [] cs) m = true := by
  have h1 := h.eq
  rw [← e] at h1
  unfold blockB at h1
  have t1 := tk_num ds.length (by omega) (restB [] ds)
  rw [h1, tk_num n (by have := h.n1; omega)] at t1
  have t2 := Option.some.inj t1
  have e1 : n = ds.length := congrArg Prod.fst t2
  have e2 : restB [] cs ++ rest = restB [] ds := congrArg Prod.snd t2
  exact ⟨e1.symm, rest_pre cs ds [] rest (by have := h.le; omega) h.bc hd h.fine f e2⟩
theorem read_no {l rest : List UInt8} {n : Nat} {cs : List CT} (h : ReadI l n cs rest) (hlt : cs.length < n) (hno : NoOne (lastK [] cs) rest) : NoBlock l := fun ds hd f hl e => by
  obtain ⟨e1, m, rfl, e3, f3⟩ := read_pre h hd f hl e
  cases m with
  | nil => rw [List.append_nil] at e1; omega
  | cons c m =>
    obtain ⟨_, p2, _⟩ := fineK_cons f3
    exact hno c (restB (keyL c) m) (hd c (List.mem_append_right _ List.mem_cons_self)) p2 e3
theorem read_more {l rest : List UInt8} {n : Nat} {cs : List CT} (h : ReadI l n cs rest) (he : cs.length = n) (hr : rest ≠ []) : NoBlock l := fun ds hd f hl e => by
  obtain ⟨e1, m, rfl, e3, _⟩ := read_pre h hd f hl e
  have : m = [] := List.eq_nil_of_length_eq_zero (by rw [List.length_append] at e1; omega)
  subst this
  exact hr e3
theorem read_all {l : List UInt8} {n : Nat} {cs : List CT} (h : ReadI l n cs []) (he : cs.length = n) : blockB cs = l := by
  rw [h.eq, List.append_nil, ← he]
  rfl
theorem no_num {l : List UInt8} (h : tk l = none) : NoBlock l := fun ds _ _ hl e => by
  rw [← e] at h
  unfold blockB at h
  rw [tk_num ds.length (by omega)] at h
  cases h
theorem no_great {l r : List UInt8} {n : Nat} (h : tk l = some (n, r)) (hn : 1000 < n) : NoBlock l := fun ds _ _ hl e => by
  rw [← e] at h
  unfold blockB at h
  rw [tk_num ds.length (by omega)] at h
  cases h
  omega
/-- A row of right cells in order has one row of bytes. -/
theorem block_same {l m : List CT} (hl : l.length ≤ 1000) (hm : m.length ≤ 1000) (hc : ∀ c ∈ l, Bc c) (hd : ∀ c ∈ m, Bc c) (f1 : fineK [] l = true) (f2 : fineK [] m = true) (h : blockB l = blockB m) : l = m :=
  (block_one (r := []) (by omega) (by omega) hc hd f1 f2 (by rw [List.append_nil]; exact h)).1

/-- The number that stands at the beginning is told by nine bytes. -/
theorem tk9_some {l r : List UInt8} {n : Nat} (h : tk l = some (n, r)) : tk (l.take 9) = some (n, r.take (9 - (numW n).length)) ∧ (numW n).length ≤ 9 ∧ l.length = (numW n).length + r.length := by
  have h1 := tk_back h
  have h2 := tk_lt h
  have h3 : (numW n).length ≤ 9 := numW_len 8 n h2
  refine ⟨?_, h3, by rw [h1, List.length_append]⟩
  rw [h1, List.take_append, List.take_of_length_le h3]
  exact tk_num n h2 _
theorem tk9_none {l : List UInt8} (h : tk l = none) : tk (l.take 9) = none := by
  cases e : tk (l.take 9) with
  | none => rfl
  | some p =>
    obtain ⟨n, r⟩ := p
    have h1 := tk_back e
    have h2 : l = numW n ++ (r ++ l.drop 9) := by rw [← List.append_assoc, ← h1, List.take_append_drop]
    rw [h2, tk_num n (tk_lt e)] at h
    cases h

/-- How many bytes a cell counts for. -/
def encN (c : CT) : Nat := if c.ok = true then (encB c).length else 0
/-- How many of the first cells are a part, so many bytes being taken. -/
def fitGo (size : Int) : Nat → Nat → List CT → Nat
  | _, _, [] => 0
  | i, t, c :: l => if 0 < i ∧ size < ((t + encN c : Nat) : Int) then 0 else fitGo size (i + 1) (t + encN c) l + 1
def fitN (size : Int) (l : List CT) : Nat := fitGo size 0 0 (l.take 1000)
theorem fitGo_le (size : Int) : ∀ (l : List CT) (i t : Nat), fitGo size i t l ≤ l.length
  | [], _, _ => by simp [fitGo]
  | c :: l, i, t => by
    unfold fitGo
    split
    · omega
    · have := fitGo_le size l (i + 1) (t + encN c)
      simp only [List.length_cons]
      omega
theorem fitN_le (size : Int) (l : List CT) : fitN size l ≤ l.length := by
  have := fitGo_le size (l.take 1000) 0 0
  unfold fitN
  rw [List.length_take] at this
  omega
theorem fitN_pos (size : Int) {l : List CT} (h : 0 < l.length) : 0 < fitN size l := by
  cases l with
  | nil => cases h
  | cons c l =>
    unfold fitN
    rw [List.take_succ_cons]
    unfold fitGo
    rw [if_neg (by omega)]
    omega
/-- Cells in parts. -/
def cutL (size : Int) (l : List CT) : List (List CT) := if _h : 0 < l.length then l.take (fitN size l) :: cutL size (l.drop (fitN size l)) else []
termination_by l.length
decreasing_by
  have hp := fitN_pos size _h
  rw [List.length_drop]
  omega
theorem cutL_nil (size : Int) : cutL size [] = [] := by rw [cutL]; rfl
theorem cutL_more (size : Int) {l : List CT} (h : 0 < l.length) : cutL size l = l.take (fitN size l) :: cutL size (l.drop (fitN size l)) := by rw [cutL, dif_pos h]
theorem cutL_len (size : Int) : ∀ (n : Nat) (l : List CT), l.length ≤ n → (cutL size l).length ≤ l.length
  | 0, l, h => by
    have : l = [] := List.eq_nil_of_length_eq_zero (by omega)
    subst this
    rw [cutL_nil]
    exact Nat.le_refl _
  | n + 1, l, h => by
    by_cases h0 : 0 < l.length
    · have h1 := fitN_pos size h0
      have h2 := cutL_len size n (l.drop (fitN size l)) (by rw [List.length_drop]; omega)
      rw [cutL_more size h0, List.length_cons]
      rw [List.length_drop] at h2
      omega
    · have : l = [] := List.eq_nil_of_length_eq_zero (by omega)
      subst this
      rw [cutL_nil]
      exact Nat.le_refl _
end Go.Proofs.YtdgkbpplngjonaaDoor

/- Plain mathematics: where a look at cells in order is. Conditions: as each theorem names them. -/
namespace Go.Proofs.YtdgkbpplngjonaaDoor
open Go.RowKit

/-- Where Fine is: so many cells are right and rise; what is to be said hangs on the others. -/
structure FinI (l : List CT) (F : Bool) (i : Nat) : Prop where
  ok : ∀ (j : Nat) (c : CT), j < i → l[j]? = some c → c.ok = true
  eq : F = fineK (lastK [] (l.take i)) (l.drop i)
theorem fini_zero (l : List CT) : FinI l (fineK [] l) 0 := ⟨fun j c h => by omega, rfl⟩
theorem fini_no {l : List CT} {F : Bool} {i : Nat} {y : CT} (h : FinI l F i) (hy : l[i]? = some y) (ho : y.ok = false) : F = false := by
  obtain ⟨hi, e⟩ := List.getElem?_eq_some_iff.1 hy
  rw [h.eq, List.drop_eq_getElem_cons hi, e, fineK, ho]
  rfl
theorem fini_next {l : List CT} {F : Bool} {i : Nat} {y : CT} (h : FinI l F i) (hy : l[i]? = some y) (ho : y.ok = true) (hl : Lib.compareBytes (lastK [] (l.take i)) (keyL y) < 0) : FinI l F (i + 1) := by
  obtain ⟨hi, e⟩ := List.getElem?_eq_some_iff.1 hy
  refine ⟨fun j c hj hc => ?_, ?_⟩
  · rcases Nat.lt_or_ge j i with q | q
    · exact h.ok j c q hc
    · obtain rfl : j = i := by omega
      rw [hy] at hc
      cases hc
      exact ho
  · rw [h.eq, List.drop_eq_getElem_cons hi, e, fineK, ho, decide_eq_true hl, List.take_add_one, hy]
    show fineK (keyL y) (l.drop (i + 1)) = fineK (lastK [] (l.take i ++ [y])) (l.drop (i + 1))
    rw [lastK_snoc]
theorem fini_last {l : List CT} {k : Nat} {x : CT} (hx : l[k]? = some x) : lastK [] (l.take (k + 1)) = keyL x := by
  rw [List.take_add_one, hx]
  exact lastK_snoc _ _ _
theorem fini_ge {l : List CT} {F : Bool} {k : Nat} {x y : CT} (h : FinI l F (k + 1)) (hx : l[k]? = some x) (hy : l[k + 1]? = some y) (ho : y.ok = true) (hc : ¬ CT.cmp x y < 0) : F = false := by
  obtain ⟨hi, e⟩ := List.getElem?_eq_some_iff.1 hy
  rw [h.eq, List.drop_eq_getElem_cons hi, e, fineK, fini_last hx, key_cmp (h.ok k x (by omega) hx) ho, decide_eq_false hc]
  simp
theorem fini_lt {l : List CT} {F : Bool} {k : Nat} {x y : CT} (h : FinI l F (k + 1)) (hx : l[k]? = some x) (hy : l[k + 1]? = some y) (ho : y.ok = true) (hc : CT.cmp x y < 0) : FinI l F (k + 1 + 1) :=
  fini_next h hy ho (by rw [fini_last hx, key_cmp (h.ok k x (by omega) hx) ho]; exact hc)
theorem fini_all {l : List CT} {F : Bool} (h : FinI l F l.length) : F = true := by
  rw [h.eq, List.drop_length]
  rfl
end Go.Proofs.YtdgkbpplngjonaaDoor

/- The document's Fine of layer 8 at every list of cells. Conditions: the argument stands, its texts are short, its numbers are of 64 bits. -/
namespace Go.Proofs.YtdgkbpplngjonaaDoor
open Go.RowKit

/-- A cell that the document's functions are told of. -/
def Dc (c : CT) : Prop := c.r.size ≤ 1000 ∧ c.f.size ≤ 1000 ∧ c.q.size ≤ 1000 ∧ c.s.size ≤ 1000 ∧ inI c.vn
theorem Sm.dc {c : CT} (h : Sm c) : Dc c := by
  obtain ⟨⟨_, _, h3⟩, h4, h5, h6, h7⟩ := h
  exact ⟨by omega, by omega, by omega, by omega, h3⟩
theorem Bc.dc {c : CT} (h : Bc c) : Dc c := by
  obtain ⟨_, h2, _, h4, h5, _⟩ := cright_parts h.1
  have e1 : c.r.data.toList.length = c.r.size := rfl
  have e2 : c.f.data.toList.length = c.f.size := rfl
  have e3 : c.q.data.toList.length = c.q.size := rfl
  have := h.2.2
  exact ⟨by omega, by omega, by omega, by omega, h.2.1⟩
theorem dorder_any (x y : CT) (hx : Dc x) (hy : Dc y) (w : World) :
    Calls Tryd.prog 46 #[x.v, y.v] w fun e w' => e = .returned (.int .i64 (CT.cmp x y)) ∧ Below w.heap.size w w' := by
  obtain ⟨h1, h2, h3, _⟩ := hx
  obtain ⟨g1, g2, g3, _⟩ := hy
  exact refcorder_any x.r x.f x.q x.s x.t x.k x.vk x.vn y.r y.f y.q y.s y.t y.k y.vk y.vn (by omega) (by omega) (by omega) (by omega) (by omega) (by omega) w
theorem dright_any (c : CT) (h : Dc c) (w : World) : Calls Tryd.prog 27 #[c.v] w fun e w' => e = .returned (.bool c.ok) ∧ Below w.heap.size w w' :=
  refcright_any c.r c.f c.q c.s c.t c.k c.vk c.vn (by have := h.2.1; omega) (by have := h.2.2.2.1; omega) w

set_option maxRecDepth 100000 in
set_option maxHeartbeats 8000000 in
theorem reffine_any (v : Value) (l : List CT) (w : World) (h : ClA w v l) (hs : ∀ c ∈ l, Dc c) :
    Calls Tryd.prog 61 #[v] w fun e w' => e = .returned (.bool (fineK [] l)) ∧ Below w.heap.size w w' := by
  have mixed : Tryd.prog.follows .mixedOrders = true := by kernel_rfl
  have HV := hid h
  obtain ⟨A, cap, rfl, hc1, hc2, hh⟩ := h
  have HH := hid hh
  clear hh
  obtain ⟨m, hm⟩ : ∃ m, l.length = m := ⟨_, rfl⟩
  have HM := hid hm
  rw [hm] at HV hc1 ⊢
  clear hm
  have HRt : Hid (∀ c ∈ l, ∀ W, Calls Tryd.prog 27 #[c.v] W fun e w' => e = .returned (.bool c.ok) ∧ Below W.heap.size W w') := fun c hc W => dright_any c (hs c hc) W
  have HOr : Hid (∀ x ∈ l, ∀ y ∈ l, ∀ W, Calls Tryd.prog 46 #[x.v, y.v] W fun e w' => e = .returned (.int .i64 (CT.cmp x y)) ∧ Below W.heap.size W w') := fun x hx y hy W => dorder_any x y (hs x hx) (hs y hy) W
  have HF0 := hid (fini_zero l)
  obtain ⟨F, hF⟩ : ∃ F, fineK [] l = F := ⟨_, rfl⟩
  rw [hF] at HF0 ⊢
  clear hF hs
  go_enter Tryd.func61, Tryd.ntmps61
  go_wp2
  go_loopw [3] (fun vi wr => ∃ i : Nat, i ≤ m ∧ vi = .int .i64 i ∧ Hid (Below w.heap.size w wr) ∧ Hid (FinI l F i)) (fun vi _ => m - (intOf vi).toNat)
  case atStart => exact ⟨0, Nat.zero_le _, rfl, Below.refl _ _, HF0.out⟩
  case round =>
    obtain ⟨i, hi, rfl, HB, HI⟩ := hrel
    by_cases hlt : i < m
    · have him : i < l.length := by rw [HM.out]; exact hlt
      obtain ⟨b, off, rfl, hhc⟩ := HH.out (by omega)
      have hbw : b < w.heap.size := hhc.lt (by omega)
      obtain ⟨y, hy⟩ : ∃ y, l[i]? = some y := ⟨_, List.getElem?_eq_getElem him⟩
      have HRy0 := hid (HRt.out y (List.mem_of_getElem? hy))
      cases hok : y.ok with
      | false =>
        have hltz : (i : Int) < (m : Int) := by omega
        obtain rfl : F = false := fini_no HI.out hy hok
        have HRy : Hid (∀ W, Calls Tryd.prog 27 #[y.v] W fun e w' => e = .returned (.bool false) ∧ Below W.heap.size W w') := by rw [← hok]; exact HRy0.out
        have P := ct_words (hhc.below HB.out hbw) i hy
        have HT : Hid (SingW wr b (off + i * 8) y wr) := ⟨hid ⟨Below.refl _ _, Nat.lt_of_lt_of_le hbw HB.out.size⟩, P⟩
        obtain ⟨y0, y1, y2, y3, y4, y5, y6, y7⟩ := P
        clear hhc hy him hlt hok HRy0
        go_upto_region 4 with (fail)
        refine wp_region_held_drew (S := (fun W' => Hid (Below wr.heap.size wr W' ∧ b < wr.heap.size) ∧ (W'.cell? ⟨b, off + i * 8, none⟩ = some (.string y.r) ∧ W'.cell? ⟨b, off + i * 8 + 1, none⟩ = some (.string y.f) ∧ W'.cell? ⟨b, off + i * 8 + 2, none⟩ = some (.string y.q) ∧ W'.cell? ⟨b, off + i * 8 + 3, none⟩ = some (.int .i64 y.t) ∧ W'.cell? ⟨b, off + i * 8 + 4, none⟩ = some (.int .i64 y.k) ∧ W'.cell? ⟨b, off + i * 8 + 5, none⟩ = some (.int .i64 y.vk) ∧ W'.cell? ⟨b, off + i * 8 + 6, none⟩ = some (.int .i64 y.vn) ∧ W'.cell? ⟨b, off + i * 8 + 7, none⟩ = some (.string y.s)))) (by kernel_rfl) ?_ (fun hHeld => ?_)
        (exact sing_drew HT.out)
        (refine wpAnyH_take (i := 0) (v := ?_) rfl (by kernel_rfl) (by kernel_rfl) (by kernel_rfl) (fun _ _ _ h => h) (Or.inl ⟨by kernel_rfl, ?_⟩) (by assumption) ?_; rotate_left; · (intro w hSw; (try dsimp only at hSw); go_simp; first | done | with_reducible rfl))
        (try simp only [Act.put]); (try simp only [List.getElem_toArray]); (try simp only [List.getElem_cons_succ]); (try simp only [List.getElem_cons_zero]); (try simp only [List.setIfInBounds_toArray]); (try simp only [List.set_cons_succ]); (try simp only [List.set_cons_zero])
        (refine wpAnyH_take (i := 1) (v := ?_) rfl (by kernel_rfl) (by kernel_rfl) (by kernel_rfl) (fun _ _ _ h => h) (Or.inl ⟨by kernel_rfl, ?_⟩) (by assumption) ?_; rotate_left; · (intro w hSw; (try dsimp only at hSw); go_simp; first | done | with_reducible rfl))
        (try simp only [Act.put]); (try simp only [List.getElem_toArray]); (try simp only [List.getElem_cons_succ]); (try simp only [List.getElem_cons_zero]); (try simp only [List.setIfInBounds_toArray]); (try simp only [List.set_cons_succ]); (try simp only [List.set_cons_zero])
        (refine wpAnyH_take (i := 2) (v := ?_) rfl (by kernel_rfl) (by kernel_rfl) (by kernel_rfl) (fun _ _ _ h => h) (Or.inl ⟨by kernel_rfl, ?_⟩) (by assumption) ?_; rotate_left; · (intro w hSw; (try dsimp only at hSw); go_simp; first | done | with_reducible rfl))
        (try simp only [Act.put]); (try simp only [List.getElem_toArray]); (try simp only [List.getElem_cons_succ]); (try simp only [List.getElem_cons_zero]); (try simp only [List.setIfInBounds_toArray]); (try simp only [List.set_cons_succ]); (try simp only [List.set_cons_zero])
        (refine wpAnyH_take (i := 3) (v := ?_) rfl (by kernel_rfl) (by kernel_rfl) (by kernel_rfl) (fun _ _ _ h => h) (Or.inl ⟨by kernel_rfl, ?_⟩) (by assumption) ?_; rotate_left; · (intro w hSw; (try dsimp only at hSw); go_simp; first | done | with_reducible rfl))
        (try simp only [Act.put]); (try simp only [List.getElem_toArray]); (try simp only [List.getElem_cons_succ]); (try simp only [List.getElem_cons_zero]); (try simp only [List.setIfInBounds_toArray]); (try simp only [List.set_cons_succ]); (try simp only [List.set_cons_zero])
        (refine wpAnyH_ready (rs := [4]) (by kernel_rfl) (by simp) (AllReadyH.cons rfl (fun K hK => ?_) AllReadyH.nil); go_simp; (go_at_call 27; refine (HRy.out _).mono ?_; rintro e w5 ⟨rfl, hb5⟩); refine hK.out _ _ ?_ (fun hHeld => ?_))
        · exact sing_call (by assumption) hb5
        clear hK K
        (try simp only [Act.put]); (try simp only [List.getElem_toArray]); (try simp only [List.getElem_cons_succ]); (try simp only [List.getElem_cons_zero]); (try simp only [List.setIfInBounds_toArray]); (try simp only [List.set_cons_succ]); (try simp only [List.set_cons_zero])
        (refine wpAnyH_take (i := 5) (v := ?_) rfl (by kernel_rfl) (by kernel_rfl) (by kernel_rfl) (fun _ _ _ h => h) (Or.inl ⟨by kernel_rfl, ?_⟩) (by assumption) ?_; rotate_left; · (intro w hSw; (try dsimp only at hSw); go_simp; first | done | with_reducible rfl))
        (try simp only [Act.put]); (try simp only [List.getElem_toArray]); (try simp only [List.getElem_cons_succ]); (try simp only [List.getElem_cons_zero]); (try simp only [List.setIfInBounds_toArray]); (try simp only [List.set_cons_succ]); (try simp only [List.set_cons_zero])
        (refine wpAnyH_take (i := 6) (v := ?_) rfl (by kernel_rfl) (by kernel_rfl) (by kernel_rfl) (fun _ _ _ h => h) (Or.inl ⟨by kernel_rfl, ?_⟩) (by assumption) ?_; rotate_left; · (intro w hSw; (try dsimp only at hSw); go_simp; first | done | with_reducible rfl))
        (try simp only [Act.put]); (try simp only [List.getElem_toArray]); (try simp only [List.getElem_cons_succ]); (try simp only [List.getElem_cons_zero]); (try simp only [List.setIfInBounds_toArray]); (try simp only [List.set_cons_succ]); (try simp only [List.set_cons_zero])
        (refine wpAnyH_take (i := 7) (v := undef) rfl (by kernel_rfl) (by kernel_rfl) (by kernel_rfl) (fun _ _ _ h => h) (Or.inr ⟨by kernel_rfl, rfl⟩) (by assumption) ?_; (try simp only [Act.put]); (try simp only [List.getElem_toArray]); (try simp only [List.getElem_cons_succ]); (try simp only [List.getElem_cons_zero]); (try simp only [List.setIfInBounds_toArray]); (try simp only [List.set_cons_succ]); (try simp only [List.set_cons_zero]))
        (refine wpAnyH_take (i := 8) (v := undef) rfl (by kernel_rfl) (by kernel_rfl) (by kernel_rfl) (fun _ _ _ h => h) (Or.inr ⟨by kernel_rfl, rfl⟩) (by assumption) ?_; (try simp only [Act.put]); (try simp only [List.getElem_toArray]); (try simp only [List.getElem_cons_succ]); (try simp only [List.getElem_cons_zero]); (try simp only [List.setIfInBounds_toArray]); (try simp only [List.set_cons_succ]); (try simp only [List.set_cons_zero]))
        (refine wpAnyH_take (i := 9) (v := undef) rfl (by kernel_rfl) (by kernel_rfl) (by kernel_rfl) (fun _ _ _ h => h) (Or.inr ⟨by kernel_rfl, rfl⟩) (by assumption) ?_; (try simp only [Act.put]); (try simp only [List.getElem_toArray]); (try simp only [List.getElem_cons_succ]); (try simp only [List.getElem_cons_zero]); (try simp only [List.setIfInBounds_toArray]); (try simp only [List.set_cons_succ]); (try simp only [List.set_cons_zero]))
        (refine wpAnyH_take (i := 10) (v := undef) rfl (by kernel_rfl) (by kernel_rfl) (by kernel_rfl) (fun _ _ _ h => h) (Or.inr ⟨by kernel_rfl, rfl⟩) (by assumption) ?_; (try simp only [Act.put]); (try simp only [List.getElem_toArray]); (try simp only [List.getElem_cons_succ]); (try simp only [List.getElem_cons_zero]); (try simp only [List.setIfInBounds_toArray]); (try simp only [List.set_cons_succ]); (try simp only [List.set_cons_zero]))
        (refine wpAnyH_take (i := 11) (v := undef) rfl (by kernel_rfl) (by kernel_rfl) (by kernel_rfl) (fun _ _ _ h => h) (Or.inr ⟨by kernel_rfl, rfl⟩) (by assumption) ?_; (try simp only [Act.put]); (try simp only [List.getElem_toArray]); (try simp only [List.getElem_cons_succ]); (try simp only [List.getElem_cons_zero]); (try simp only [List.setIfInBounds_toArray]); (try simp only [List.set_cons_succ]); (try simp only [List.set_cons_zero]))
        (refine wpAnyH_take (i := 12) (v := undef) rfl (by kernel_rfl) (by kernel_rfl) (by kernel_rfl) (fun _ _ _ h => h) (Or.inr ⟨by kernel_rfl, rfl⟩) (by assumption) ?_; (try simp only [Act.put]); (try simp only [List.getElem_toArray]); (try simp only [List.getElem_cons_succ]); (try simp only [List.getElem_cons_zero]); (try simp only [List.setIfInBounds_toArray]); (try simp only [List.set_cons_succ]); (try simp only [List.set_cons_zero]))
        (refine wpAnyH_take (i := 13) (v := undef) rfl (by kernel_rfl) (by kernel_rfl) (by kernel_rfl) (fun _ _ _ h => h) (Or.inr ⟨by kernel_rfl, rfl⟩) (by assumption) ?_; (try simp only [Act.put]); (try simp only [List.getElem_toArray]); (try simp only [List.getElem_cons_succ]); (try simp only [List.getElem_cons_zero]); (try simp only [List.setIfInBounds_toArray]); (try simp only [List.set_cons_succ]); (try simp only [List.set_cons_zero]))
        (refine wpAnyH_take (i := 14) (v := undef) rfl (by kernel_rfl) (by kernel_rfl) (by kernel_rfl) (fun _ _ _ h => h) (Or.inr ⟨by kernel_rfl, rfl⟩) (by assumption) ?_; (try simp only [Act.put]); (try simp only [List.getElem_toArray]); (try simp only [List.getElem_cons_succ]); (try simp only [List.getElem_cons_zero]); (try simp only [List.setIfInBounds_toArray]); (try simp only [List.set_cons_succ]); (try simp only [List.set_cons_zero]))
        (refine wpAnyH_take (i := 15) (v := undef) rfl (by kernel_rfl) (by kernel_rfl) (by kernel_rfl) (fun _ _ _ h => h) (Or.inr ⟨by kernel_rfl, rfl⟩) (by assumption) ?_; (try simp only [Act.put]); (try simp only [List.getElem_toArray]); (try simp only [List.getElem_cons_succ]); (try simp only [List.getElem_cons_zero]); (try simp only [List.setIfInBounds_toArray]); (try simp only [List.set_cons_succ]); (try simp only [List.set_cons_zero]))
        (refine wpAnyH_take (i := 16) (v := undef) rfl (by kernel_rfl) (by kernel_rfl) (by kernel_rfl) (fun _ _ _ h => h) (Or.inr ⟨by kernel_rfl, rfl⟩) (by assumption) ?_; (try simp only [Act.put]); (try simp only [List.getElem_toArray]); (try simp only [List.getElem_cons_succ]); (try simp only [List.getElem_cons_zero]); (try simp only [List.setIfInBounds_toArray]); (try simp only [List.set_cons_succ]); (try simp only [List.set_cons_zero]))
        (refine wpAnyH_take (i := 17) (v := undef) rfl (by kernel_rfl) (by kernel_rfl) (by kernel_rfl) (fun _ _ _ h => h) (Or.inr ⟨by kernel_rfl, rfl⟩) (by assumption) ?_; (try simp only [Act.put]); (try simp only [List.getElem_toArray]); (try simp only [List.getElem_cons_succ]); (try simp only [List.getElem_cons_zero]); (try simp only [List.setIfInBounds_toArray]); (try simp only [List.set_cons_succ]); (try simp only [List.set_cons_zero]))
        (refine wpAnyH_take (i := 18) (v := undef) rfl (by kernel_rfl) (by kernel_rfl) (by kernel_rfl) (fun _ _ _ h => h) (Or.inr ⟨by kernel_rfl, rfl⟩) (by assumption) ?_; (try simp only [Act.put]); (try simp only [List.getElem_toArray]); (try simp only [List.getElem_cons_succ]); (try simp only [List.getElem_cons_zero]); (try simp only [List.setIfInBounds_toArray]); (try simp only [List.set_cons_succ]); (try simp only [List.set_cons_zero]))
        (refine wpAnyH_take (i := 19) (v := undef) rfl (by kernel_rfl) (by kernel_rfl) (by kernel_rfl) (fun _ _ _ h => h) (Or.inr ⟨by kernel_rfl, rfl⟩) (by assumption) ?_; (try simp only [Act.put]); (try simp only [List.getElem_toArray]); (try simp only [List.getElem_cons_succ]); (try simp only [List.getElem_cons_zero]); (try simp only [List.setIfInBounds_toArray]); (try simp only [List.set_cons_succ]); (try simp only [List.set_cons_zero]))
        (refine wpAnyH_take (i := 20) (v := undef) rfl (by kernel_rfl) (by kernel_rfl) (by kernel_rfl) (fun _ _ _ h => h) (Or.inr ⟨by kernel_rfl, rfl⟩) (by assumption) ?_; (try simp only [Act.put]); (try simp only [List.getElem_toArray]); (try simp only [List.getElem_cons_succ]); (try simp only [List.getElem_cons_zero]); (try simp only [List.setIfInBounds_toArray]); (try simp only [List.set_cons_succ]); (try simp only [List.set_cons_zero]))
        (refine wpAnyH_take (i := 21) (v := undef) rfl (by kernel_rfl) (by kernel_rfl) (by kernel_rfl) (fun _ _ _ h => h) (Or.inr ⟨by kernel_rfl, rfl⟩) (by assumption) ?_; (try simp only [Act.put]); (try simp only [List.getElem_toArray]); (try simp only [List.getElem_cons_succ]); (try simp only [List.getElem_cons_zero]); (try simp only [List.setIfInBounds_toArray]); (try simp only [List.set_cons_succ]); (try simp only [List.set_cons_zero]))
        (refine wpAnyH_take (i := 22) (v := ?_) rfl (by kernel_rfl) (by kernel_rfl) (by kernel_rfl) (fun _ _ _ h => h) (Or.inl ⟨by kernel_rfl, ?_⟩) (by assumption) ?_; rotate_left; · (intro w hSw; (try dsimp only at hSw); go_simp; first | done | with_reducible rfl))
        (try simp only [Act.put]); (try simp only [List.getElem_toArray]); (try simp only [List.getElem_cons_succ]); (try simp only [List.getElem_cons_zero]); (try simp only [List.setIfInBounds_toArray]); (try simp only [List.set_cons_succ]); (try simp only [List.set_cons_zero])
        refine wpAnyH_done (by kernel_rfl) ?_ _
        have HB2 := hid (HB.out.trans (hHeld.1.out.1.mono HB.out.size))
        clear hHeld HT
        clear y0 y1 y2 y3 y4 y5 y6 y7
        go_wp2
        go_ret
        exact ⟨rfl, HB2.out⟩
      | true =>
        have HRy : Hid (∀ W, Calls Tryd.prog 27 #[y.v] W fun e w' => e = .returned (.bool true) ∧ Below W.heap.size W w') := by rw [← hok]; exact HRy0.out
        cases i with
        | zero =>
          have hltz : (0 : Int) < (m : Int) := by omega
          have HIn := hid (fini_next HI.out hy hok key_first)
          have P := ct_words (hhc.below HB.out hbw) 0 hy
          rw [Nat.zero_mul, Nat.add_zero] at P
          have HT : Hid (SingW wr b off y wr) := ⟨hid ⟨Below.refl _ _, Nat.lt_of_lt_of_le hbw HB.out.size⟩, P⟩
          obtain ⟨y0, y1, y2, y3, y4, y5, y6, y7⟩ := P
          clear hhc hy him hlt hok HRy0
          go_upto_region 4 with (fail)
          refine wp_region_held_drew (S := (fun W' => Hid (Below wr.heap.size wr W' ∧ b < wr.heap.size) ∧ (W'.cell? ⟨b, off, none⟩ = some (.string y.r) ∧ W'.cell? ⟨b, off + 1, none⟩ = some (.string y.f) ∧ W'.cell? ⟨b, off + 2, none⟩ = some (.string y.q) ∧ W'.cell? ⟨b, off + 3, none⟩ = some (.int .i64 y.t) ∧ W'.cell? ⟨b, off + 4, none⟩ = some (.int .i64 y.k) ∧ W'.cell? ⟨b, off + 5, none⟩ = some (.int .i64 y.vk) ∧ W'.cell? ⟨b, off + 6, none⟩ = some (.int .i64 y.vn) ∧ W'.cell? ⟨b, off + 7, none⟩ = some (.string y.s)))) (by kernel_rfl) ?_ (fun hHeld => ?_)
          (exact sing_drew HT.out)
          (refine wpAnyH_take (i := 0) (v := ?_) rfl (by kernel_rfl) (by kernel_rfl) (by kernel_rfl) (fun _ _ _ h => h) (Or.inl ⟨by kernel_rfl, ?_⟩) (by assumption) ?_; rotate_left; · (intro w hSw; (try dsimp only at hSw); go_simp; first | done | with_reducible rfl))
          (try simp only [Act.put]); (try simp only [List.getElem_toArray]); (try simp only [List.getElem_cons_succ]); (try simp only [List.getElem_cons_zero]); (try simp only [List.setIfInBounds_toArray]); (try simp only [List.set_cons_succ]); (try simp only [List.set_cons_zero])
          (refine wpAnyH_take (i := 1) (v := ?_) rfl (by kernel_rfl) (by kernel_rfl) (by kernel_rfl) (fun _ _ _ h => h) (Or.inl ⟨by kernel_rfl, ?_⟩) (by assumption) ?_; rotate_left; · (intro w hSw; (try dsimp only at hSw); go_simp; first | done | with_reducible rfl))
          (try simp only [Act.put]); (try simp only [List.getElem_toArray]); (try simp only [List.getElem_cons_succ]); (try simp only [List.getElem_cons_zero]); (try simp only [List.setIfInBounds_toArray]); (try simp only [List.set_cons_succ]); (try simp only [List.set_cons_zero])
          (refine wpAnyH_take (i := 2) (v := ?_) rfl (by kernel_rfl) (by kernel_rfl) (by kernel_rfl) (fun _ _ _ h => h) (Or.inl ⟨by kernel_rfl, ?_⟩) (by assumption) ?_; rotate_left; · (intro w hSw; (try dsimp only at hSw); go_simp; first | done | with_reducible rfl))
          (try simp only [Act.put]); (try simp only [List.getElem_toArray]); (try simp only [List.getElem_cons_succ]); (try simp only [List.getElem_cons_zero]); (try simp only [List.setIfInBounds_toArray]); (try simp only [List.set_cons_succ]); (try simp only [List.set_cons_zero])
          (refine wpAnyH_take (i := 3) (v := ?_) rfl (by kernel_rfl) (by kernel_rfl) (by kernel_rfl) (fun _ _ _ h => h) (Or.inl ⟨by kernel_rfl, ?_⟩) (by assumption) ?_; rotate_left; · (intro w hSw; (try dsimp only at hSw); go_simp; first | done | with_reducible rfl))
          (try simp only [Act.put]); (try simp only [List.getElem_toArray]); (try simp only [List.getElem_cons_succ]); (try simp only [List.getElem_cons_zero]); (try simp only [List.setIfInBounds_toArray]); (try simp only [List.set_cons_succ]); (try simp only [List.set_cons_zero])
          (refine wpAnyH_ready (rs := [4]) (by kernel_rfl) (by simp) (AllReadyH.cons rfl (fun K hK => ?_) AllReadyH.nil); go_simp; (go_at_call 27; refine (HRy.out _).mono ?_; rintro e w5 ⟨rfl, hb5⟩); refine hK.out _ _ ?_ (fun hHeld => ?_))
          · exact sing_call (by assumption) hb5
          clear hK K
          (try simp only [Act.put]); (try simp only [List.getElem_toArray]); (try simp only [List.getElem_cons_succ]); (try simp only [List.getElem_cons_zero]); (try simp only [List.setIfInBounds_toArray]); (try simp only [List.set_cons_succ]); (try simp only [List.set_cons_zero])
          (refine wpAnyH_take (i := 5) (v := ?_) rfl (by kernel_rfl) (by kernel_rfl) (by kernel_rfl) (fun _ _ _ h => h) (Or.inl ⟨by kernel_rfl, ?_⟩) (by assumption) ?_; rotate_left; · (intro w hSw; (try dsimp only at hSw); go_simp; first | done | with_reducible rfl))
          (try simp only [Act.put]); (try simp only [List.getElem_toArray]); (try simp only [List.getElem_cons_succ]); (try simp only [List.getElem_cons_zero]); (try simp only [List.setIfInBounds_toArray]); (try simp only [List.set_cons_succ]); (try simp only [List.set_cons_zero])
          (refine wpAnyH_take (i := 6) (v := ?_) rfl (by kernel_rfl) (by kernel_rfl) (by kernel_rfl) (fun _ _ _ h => h) (Or.inl ⟨by kernel_rfl, ?_⟩) (by assumption) ?_; rotate_left; · (intro w hSw; (try dsimp only at hSw); go_simp; first | done | with_reducible rfl))
          (try simp only [Act.put]); (try simp only [List.getElem_toArray]); (try simp only [List.getElem_cons_succ]); (try simp only [List.getElem_cons_zero]); (try simp only [List.setIfInBounds_toArray]); (try simp only [List.set_cons_succ]); (try simp only [List.set_cons_zero])
          (refine wpAnyH_take (i := 7) (v := ?_) rfl (by kernel_rfl) (by kernel_rfl) (by kernel_rfl) (fun _ _ _ h => h) (Or.inl ⟨by kernel_rfl, ?_⟩) (by assumption) ?_; rotate_left; · (intro w hSw; (try dsimp only at hSw); go_simp; first | done | with_reducible rfl))
          (try simp only [Act.put]); (try simp only [List.getElem_toArray]); (try simp only [List.getElem_cons_succ]); (try simp only [List.getElem_cons_zero]); (try simp only [List.setIfInBounds_toArray]); (try simp only [List.set_cons_succ]); (try simp only [List.set_cons_zero])
          (refine wpAnyH_take (i := 8) (v := ?_) rfl (by kernel_rfl) (by kernel_rfl) (by kernel_rfl) (fun _ _ _ h => h) (Or.inl ⟨by kernel_rfl, ?_⟩) (by assumption) ?_; rotate_left; · (intro w hSw; (try dsimp only at hSw); go_simp; first | done | with_reducible rfl))
          (try simp only [Act.put]); (try simp only [List.getElem_toArray]); (try simp only [List.getElem_cons_succ]); (try simp only [List.getElem_cons_zero]); (try simp only [List.setIfInBounds_toArray]); (try simp only [List.set_cons_succ]); (try simp only [List.set_cons_zero])
          (refine wpAnyH_take (i := 9) (v := ?_) rfl (by kernel_rfl) (by kernel_rfl) (by kernel_rfl) (fun _ _ _ h => h) (Or.inl ⟨by kernel_rfl, ?_⟩) (by assumption) ?_; rotate_left; · (intro w hSw; (try dsimp only at hSw); go_simp; first | done | with_reducible rfl))
          (try simp only [Act.put]); (try simp only [List.getElem_toArray]); (try simp only [List.getElem_cons_succ]); (try simp only [List.getElem_cons_zero]); (try simp only [List.setIfInBounds_toArray]); (try simp only [List.set_cons_succ]); (try simp only [List.set_cons_zero])
          (refine wpAnyH_take (i := 10) (v := undef) rfl (by kernel_rfl) (by kernel_rfl) (by kernel_rfl) (fun _ _ _ h => h) (Or.inr ⟨by kernel_rfl, rfl⟩) (by assumption) ?_; (try simp only [Act.put]); (try simp only [List.getElem_toArray]); (try simp only [List.getElem_cons_succ]); (try simp only [List.getElem_cons_zero]); (try simp only [List.setIfInBounds_toArray]); (try simp only [List.set_cons_succ]); (try simp only [List.set_cons_zero]))
          (refine wpAnyH_take (i := 11) (v := undef) rfl (by kernel_rfl) (by kernel_rfl) (by kernel_rfl) (fun _ _ _ h => h) (Or.inr ⟨by kernel_rfl, rfl⟩) (by assumption) ?_; (try simp only [Act.put]); (try simp only [List.getElem_toArray]); (try simp only [List.getElem_cons_succ]); (try simp only [List.getElem_cons_zero]); (try simp only [List.setIfInBounds_toArray]); (try simp only [List.set_cons_succ]); (try simp only [List.set_cons_zero]))
          (refine wpAnyH_take (i := 12) (v := undef) rfl (by kernel_rfl) (by kernel_rfl) (by kernel_rfl) (fun _ _ _ h => h) (Or.inr ⟨by kernel_rfl, rfl⟩) (by assumption) ?_; (try simp only [Act.put]); (try simp only [List.getElem_toArray]); (try simp only [List.getElem_cons_succ]); (try simp only [List.getElem_cons_zero]); (try simp only [List.setIfInBounds_toArray]); (try simp only [List.set_cons_succ]); (try simp only [List.set_cons_zero]))
          (refine wpAnyH_take (i := 13) (v := undef) rfl (by kernel_rfl) (by kernel_rfl) (by kernel_rfl) (fun _ _ _ h => h) (Or.inr ⟨by kernel_rfl, rfl⟩) (by assumption) ?_; (try simp only [Act.put]); (try simp only [List.getElem_toArray]); (try simp only [List.getElem_cons_succ]); (try simp only [List.getElem_cons_zero]); (try simp only [List.setIfInBounds_toArray]); (try simp only [List.set_cons_succ]); (try simp only [List.set_cons_zero]))
          (refine wpAnyH_take (i := 14) (v := undef) rfl (by kernel_rfl) (by kernel_rfl) (by kernel_rfl) (fun _ _ _ h => h) (Or.inr ⟨by kernel_rfl, rfl⟩) (by assumption) ?_; (try simp only [Act.put]); (try simp only [List.getElem_toArray]); (try simp only [List.getElem_cons_succ]); (try simp only [List.getElem_cons_zero]); (try simp only [List.setIfInBounds_toArray]); (try simp only [List.set_cons_succ]); (try simp only [List.set_cons_zero]))
          (refine wpAnyH_take (i := 15) (v := undef) rfl (by kernel_rfl) (by kernel_rfl) (by kernel_rfl) (fun _ _ _ h => h) (Or.inr ⟨by kernel_rfl, rfl⟩) (by assumption) ?_; (try simp only [Act.put]); (try simp only [List.getElem_toArray]); (try simp only [List.getElem_cons_succ]); (try simp only [List.getElem_cons_zero]); (try simp only [List.setIfInBounds_toArray]); (try simp only [List.set_cons_succ]); (try simp only [List.set_cons_zero]))
          (refine wpAnyH_take (i := 16) (v := undef) rfl (by kernel_rfl) (by kernel_rfl) (by kernel_rfl) (fun _ _ _ h => h) (Or.inr ⟨by kernel_rfl, rfl⟩) (by assumption) ?_; (try simp only [Act.put]); (try simp only [List.getElem_toArray]); (try simp only [List.getElem_cons_succ]); (try simp only [List.getElem_cons_zero]); (try simp only [List.setIfInBounds_toArray]); (try simp only [List.set_cons_succ]); (try simp only [List.set_cons_zero]))
          (refine wpAnyH_take (i := 17) (v := undef) rfl (by kernel_rfl) (by kernel_rfl) (by kernel_rfl) (fun _ _ _ h => h) (Or.inr ⟨by kernel_rfl, rfl⟩) (by assumption) ?_; (try simp only [Act.put]); (try simp only [List.getElem_toArray]); (try simp only [List.getElem_cons_succ]); (try simp only [List.getElem_cons_zero]); (try simp only [List.setIfInBounds_toArray]); (try simp only [List.set_cons_succ]); (try simp only [List.set_cons_zero]))
          (refine wpAnyH_take (i := 18) (v := undef) rfl (by kernel_rfl) (by kernel_rfl) (by kernel_rfl) (fun _ _ _ h => h) (Or.inr ⟨by kernel_rfl, rfl⟩) (by assumption) ?_; (try simp only [Act.put]); (try simp only [List.getElem_toArray]); (try simp only [List.getElem_cons_succ]); (try simp only [List.getElem_cons_zero]); (try simp only [List.setIfInBounds_toArray]); (try simp only [List.set_cons_succ]); (try simp only [List.set_cons_zero]))
          (refine wpAnyH_take (i := 19) (v := undef) rfl (by kernel_rfl) (by kernel_rfl) (by kernel_rfl) (fun _ _ _ h => h) (Or.inr ⟨by kernel_rfl, rfl⟩) (by assumption) ?_; (try simp only [Act.put]); (try simp only [List.getElem_toArray]); (try simp only [List.getElem_cons_succ]); (try simp only [List.getElem_cons_zero]); (try simp only [List.setIfInBounds_toArray]); (try simp only [List.set_cons_succ]); (try simp only [List.set_cons_zero]))
          (refine wpAnyH_take (i := 20) (v := undef) rfl (by kernel_rfl) (by kernel_rfl) (by kernel_rfl) (fun _ _ _ h => h) (Or.inr ⟨by kernel_rfl, rfl⟩) (by assumption) ?_; (try simp only [Act.put]); (try simp only [List.getElem_toArray]); (try simp only [List.getElem_cons_succ]); (try simp only [List.getElem_cons_zero]); (try simp only [List.setIfInBounds_toArray]); (try simp only [List.set_cons_succ]); (try simp only [List.set_cons_zero]))
          (refine wpAnyH_take (i := 21) (v := ?_) rfl (by kernel_rfl) (by kernel_rfl) (by kernel_rfl) (fun _ _ _ h => h) (Or.inl ⟨by kernel_rfl, ?_⟩) (by assumption) ?_; rotate_left; · (intro w hSw; (try dsimp only at hSw); go_simp; first | done | with_reducible rfl))
          (try simp only [Act.put]); (try simp only [List.getElem_toArray]); (try simp only [List.getElem_cons_succ]); (try simp only [List.getElem_cons_zero]); (try simp only [List.setIfInBounds_toArray]); (try simp only [List.set_cons_succ]); (try simp only [List.set_cons_zero])
          (refine wpAnyH_take (i := 22) (v := ?_) rfl (by kernel_rfl) (by kernel_rfl) (by kernel_rfl) (fun _ _ _ h => h) (Or.inl ⟨by kernel_rfl, ?_⟩) (by assumption) ?_; rotate_left; · (intro w hSw; (try dsimp only at hSw); go_simp; first | done | with_reducible rfl))
          (try simp only [Act.put]); (try simp only [List.getElem_toArray]); (try simp only [List.getElem_cons_succ]); (try simp only [List.getElem_cons_zero]); (try simp only [List.setIfInBounds_toArray]); (try simp only [List.set_cons_succ]); (try simp only [List.set_cons_zero])
          refine wpAnyH_done (by kernel_rfl) ?_ _
          have HB2 := hid (HB.out.trans (hHeld.1.out.1.mono HB.out.size))
          clear hHeld HT
          clear y0 y1 y2 y3 y4 y5 y6 y7
          go_wp2
          go_roundw
          case rel => exact ⟨1, by omega, by go_num, HB2.out, HIn.out⟩
          case measure => simp [intOf]; omega
        | succ k =>
          have hkm : k < l.length := by omega
          obtain ⟨x, hx⟩ : ∃ x, l[k]? = some x := ⟨_, List.getElem?_eq_getElem hkm⟩
          obtain ⟨o, ho⟩ : ∃ o, CT.cmp x y = o := ⟨_, rfl⟩
          have HOx := hid (HOr.out x (List.mem_of_getElem? hx) y (List.mem_of_getElem? hy))
          rw [ho] at HOx
          have HGe : Hid (¬ o < 0 → F = false) := fun q => fini_ge HI.out hx hy hok (by rw [ho]; exact q)
          have HLt : Hid (o < 0 → FinI l F (k + 1 + 1)) := fun q => fini_lt HI.out hx hy hok (by rw [ho]; exact q)
          have hltz : (k : Int) + 1 < (m : Int) := by omega
          have hltp : (0 : Int) < (k : Int) + 1 := by omega
          have hge : (0 : Int) ≤ (k : Int) + 1 := by omega
          have htn : ((k : Int) + 1).toNat = k + 1 := by omega
          have hwj : IntKind.i64.wrap (k : Int) = (k : Int) := by rw [IntKind.wrap_i64]; omega
          have hwj1 : IntKind.i64.wrap ((k : Int) + 1 - 1) = (k : Int) := by rw [IntKind.wrap_i64]; omega
          have hjm : (k : Int) < (m : Int) := by omega
          have HT : Hid (PairW wr b (off + k * 8) (off + (k + 1) * 8) x y wr) := ⟨hid ⟨Below.refl _ _, Nat.lt_of_lt_of_le hbw HB.out.size⟩, ct_words (hhc.below HB.out hbw) k hx, ct_words (hhc.below HB.out hbw) (k + 1) hy⟩
          obtain ⟨-, ⟨x0, x1, x2, x3, x4, x5, x6, x7⟩, ⟨y0, y1, y2, y3, y4, y5, y6, y7⟩⟩ := HT.out
          clear hhc hy hx him hkm hlt hok HRy0 ho
          by_cases ho : o < 0
          · have hno : ¬ (0 : Int) ≤ o := by omega
            have HL2 := hid (HLt.out ho)
            go_upto_region 4 with (fail)
            go_region_held3 (fun W' => Hid (Below wr.heap.size wr W' ∧ b < wr.heap.size) ∧ (W'.cell? ⟨b, off + k * 8, none⟩ = some (.string x.r) ∧ W'.cell? ⟨b, off + k * 8 + 1, none⟩ = some (.string x.f) ∧ W'.cell? ⟨b, off + k * 8 + 2, none⟩ = some (.string x.q) ∧ W'.cell? ⟨b, off + k * 8 + 3, none⟩ = some (.int .i64 x.t) ∧ W'.cell? ⟨b, off + k * 8 + 4, none⟩ = some (.int .i64 x.k) ∧ W'.cell? ⟨b, off + k * 8 + 5, none⟩ = some (.int .i64 x.vk) ∧ W'.cell? ⟨b, off + k * 8 + 6, none⟩ = some (.int .i64 x.vn) ∧ W'.cell? ⟨b, off + k * 8 + 7, none⟩ = some (.string x.s)) ∧ (W'.cell? ⟨b, off + (k + 1) * 8, none⟩ = some (.string y.r) ∧ W'.cell? ⟨b, off + (k + 1) * 8 + 1, none⟩ = some (.string y.f) ∧ W'.cell? ⟨b, off + (k + 1) * 8 + 2, none⟩ = some (.string y.q) ∧ W'.cell? ⟨b, off + (k + 1) * 8 + 3, none⟩ = some (.int .i64 y.t) ∧ W'.cell? ⟨b, off + (k + 1) * 8 + 4, none⟩ = some (.int .i64 y.k) ∧ W'.cell? ⟨b, off + (k + 1) * 8 + 5, none⟩ = some (.int .i64 y.vk) ∧ W'.cell? ⟨b, off + (k + 1) * 8 + 6, none⟩ = some (.int .i64 y.vn) ∧ W'.cell? ⟨b, off + (k + 1) * 8 + 7, none⟩ = some (.string y.s)))
              (first | exact HT.out | exact pair_drew HT.out | exact pair_call (by assumption) hb3 | exact pair_drew (by assumption) | assumption)
              (first | (go_at_call 27; refine (HRy.out _).mono ?_; rintro e w3 ⟨rfl, hb3⟩) | (go_at_call 46; refine (HOx.out _).mono ?_; rintro e w3 ⟨rfl, hb3⟩))
            rename_i hLast
            have HZ3 := hid (HB.out.trans (hLast.1.out.1.mono HB.out.size))
            clear hLast HT x0 x1 x2 x3 x4 x5 x6 x7 y0 y1 y2 y3 y4 y5 y6 y7
            go_wp2
            go_roundw
            case rel => exact ⟨k + 1 + 1, by omega, by go_num, HZ3.out, HL2.out⟩
            case measure => simp [intOf]; omega
          · have hno : (0 : Int) ≤ o := by omega
            obtain rfl : F = false := HGe.out ho
            go_upto_region 4 with (fail)
            go_region_held3 (fun W' => Hid (Below wr.heap.size wr W' ∧ b < wr.heap.size) ∧ (W'.cell? ⟨b, off + k * 8, none⟩ = some (.string x.r) ∧ W'.cell? ⟨b, off + k * 8 + 1, none⟩ = some (.string x.f) ∧ W'.cell? ⟨b, off + k * 8 + 2, none⟩ = some (.string x.q) ∧ W'.cell? ⟨b, off + k * 8 + 3, none⟩ = some (.int .i64 x.t) ∧ W'.cell? ⟨b, off + k * 8 + 4, none⟩ = some (.int .i64 x.k) ∧ W'.cell? ⟨b, off + k * 8 + 5, none⟩ = some (.int .i64 x.vk) ∧ W'.cell? ⟨b, off + k * 8 + 6, none⟩ = some (.int .i64 x.vn) ∧ W'.cell? ⟨b, off + k * 8 + 7, none⟩ = some (.string x.s)) ∧ (W'.cell? ⟨b, off + (k + 1) * 8, none⟩ = some (.string y.r) ∧ W'.cell? ⟨b, off + (k + 1) * 8 + 1, none⟩ = some (.string y.f) ∧ W'.cell? ⟨b, off + (k + 1) * 8 + 2, none⟩ = some (.string y.q) ∧ W'.cell? ⟨b, off + (k + 1) * 8 + 3, none⟩ = some (.int .i64 y.t) ∧ W'.cell? ⟨b, off + (k + 1) * 8 + 4, none⟩ = some (.int .i64 y.k) ∧ W'.cell? ⟨b, off + (k + 1) * 8 + 5, none⟩ = some (.int .i64 y.vk) ∧ W'.cell? ⟨b, off + (k + 1) * 8 + 6, none⟩ = some (.int .i64 y.vn) ∧ W'.cell? ⟨b, off + (k + 1) * 8 + 7, none⟩ = some (.string y.s)))
              (first | exact HT.out | exact pair_drew HT.out | exact pair_call (by assumption) hb3 | exact pair_drew (by assumption) | assumption)
              (first | (go_at_call 27; refine (HRy.out _).mono ?_; rintro e w3 ⟨rfl, hb3⟩) | (go_at_call 46; refine (HOx.out _).mono ?_; rintro e w3 ⟨rfl, hb3⟩))
            rename_i hLast
            have HZ3 := hid (HB.out.trans (hLast.1.out.1.mono HB.out.size))
            clear hLast HT x0 x1 x2 x3 x4 x5 x6 x7 y0 y1 y2 y3 y4 y5 y6 y7
            go_wp2
            go_ret
            exact ⟨rfl, HZ3.out⟩
    · obtain rfl : i = m := by omega
      obtain rfl : F = true := by have := HI.out; rw [← HM.out] at this; exact fini_all this
      go_wp2
      go_ret
      exact ⟨rfl, HB.out⟩
end Go.Proofs.YtdgkbpplngjonaaDoor
