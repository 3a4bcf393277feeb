/- The filter: what it lets, what a sieve takes, how the document counts it; its mathematics. Conditions: none. -/
import Derived.Test.YtgfkobfkncpmoaaDoorFtB
import Derived.Test.YtgfkobfkncpmoaaDoorII
namespace Go.Proofs.YtgfkobfkncpmoaaDoor
open Go.RowKit

/-- A filter. -/
structure FT where
  fams : List ByteArray
  fr : ByteArray
  tq : ByteArray
  si : Int
  un : Int
  ve : Int
  ro : Int
/-- Is it right? -/
def FT.right (f : FT) : Bool := (decide (f.fams.length ≤ 6) && f.fams.all fun x => nameB x.data.toList) && (decide (f.fr.size ≤ 12) && decide (f.tq.size ≤ 12)) && ((decide (0 ≤ f.si) && decide (f.si ≤ 1099511627776)) && (decide (0 ≤ f.un) && decide (f.un ≤ 1099511627776))) && ((decide (0 ≤ f.ve) && decide (f.ve ≤ 8)) && (decide (0 ≤ f.ro) && decide (f.ro ≤ 1000)))
/-- Does it let a cell? -/
def FT.lets (f : FT) (c : CT) : Bool := (f.fams.isEmpty || hasT f.fams c.f) && (!decide (Lib.compareBytes c.q.data.toList f.fr.data.toList < 0)) && (decide (f.tq.size = 0) || decide (Lib.compareBytes c.q.data.toList f.tq.data.toList < 0)) && (decide (f.si ≤ c.t) && (decide (f.un = 0) || decide (c.t < f.un)))
/-- A sieve. -/
structure SV where
  r : ByteArray
  f : ByteArray
  q : ByteArray
  bg : Bool
  tk : Nat
  an : Bool
  rw9 : Nat
def SV.nil9 : SV := ⟨⟨#[]⟩, ⟨#[]⟩, ⟨#[]⟩, false, 0, false, 0⟩
def SV.mv (s : SV) (c : CT) : SV := ⟨c.r, c.f, c.q, true, if c.r = s.r ∧ c.f = s.f ∧ c.q = s.q then s.tk else 0, if c.r = s.r then s.an else false, s.rw9⟩
def SV.dn (F : FT) (s : SV) : Bool := decide (F.ro ≠ 0) && s.bg && !s.an && decide (F.ro ≤ (s.rw9 : Int))
def SV.en (F : FT) (s : SV) : Bool := decide (F.ve ≠ 0) && decide (F.ve ≤ (s.tk : Int))
def SV.ok (F : FT) (s : SV) (c : CT) : Bool := F.lets c && !((s.mv c).en F) && !((s.mv c).dn F)
def SV.tkn (s : SV) : SV := ⟨s.r, s.f, s.q, s.bg, s.tk + 1, true, if s.an = true then s.rw9 else s.rw9 + 1⟩
def SV.go9 (F : FT) (s : SV) (c : CT) : SV := if s.ok F c = true then (s.mv c).tkn else s.mv c
/-- What is taken of cells. -/
def apF (F : FT) : SV → List CT → List CT
  | _, [] => []
  | s, c :: t => if s.ok F c = true then c :: apF F (s.go9 F c) t else apF F (s.go9 F c) t
/-- Where a sieve stands behind cells. -/
def stF (F : FT) (s : SV) (l : List CT) : SV := l.foldl (fun s c => s.go9 F c) s
theorem stF_snoc (F : FT) (s : SV) (l : List CT) (c : CT) : stF F s (l ++ [c]) = (stF F s l).go9 F c := by unfold stF; rw [List.foldl_append]; rfl
theorem apF_snoc (F : FT) (c : CT) : ∀ (l : List CT) (s : SV), apF F s (l ++ [c]) = if (stF F s l).ok F c = true then apF F s l ++ [c] else apF F s l
  | [], s => by
    show (if s.ok F c = true then _ else _) = if s.ok F c = true then _ else _
    split <;> rfl
  | x :: t, s => by
    have h := apF_snoc F c t (s.go9 F x)
    show (if s.ok F x = true then x :: apF F (s.go9 F x) (t ++ [c]) else apF F (s.go9 F x) (t ++ [c])) = if (stF F (s.go9 F x) t).ok F c = true then (if s.ok F x = true then x :: apF F (s.go9 F x) t else apF F (s.go9 F x) t) ++ [c] else (if s.ok F x = true then x :: apF F (s.go9 F x) t else apF F (s.go9 F x) t)
    rw [h]
    by_cases h1 : (stF F (s.go9 F x) t).ok F c = true <;> by_cases h2 : s.ok F x = true <;> simp [h1, h2]
/-- Where nothing may be taken any more, nothing is. -/
theorem dn_mv {F : FT} {s : SV} (h : s.dn F = true) (c : CT) : (s.mv c).dn F = true := by
  unfold SV.dn at h ⊢
  simp only [Bool.and_eq_true, decide_eq_true_eq, Bool.not_eq_true'] at h ⊢
  obtain ⟨⟨⟨h1, h2⟩, h3⟩, h4⟩ := h
  refine ⟨⟨⟨h1, rfl⟩, ?_⟩, h4⟩
  show (if c.r = s.r then s.an else false) = false
  rw [h3]; split <;> rfl
theorem dn_stop {F : FT} : ∀ (l : List CT) (s : SV), s.dn F = true → apF F s l = []
  | [], _, _ => rfl
  | c :: t, s, h => by
    have h1 := dn_mv h c
    have h2 : s.ok F c = false := by unfold SV.ok; rw [h1]; simp
    have h3 : s.go9 F c = s.mv c := by unfold SV.go9; rw [h2]; rfl
    show (if s.ok F c = true then _ else apF F (s.go9 F c) t) = []
    rw [h2, h3]
    exact dn_stop t _ h1
theorem apF_app (F : FT) : ∀ (l m : List CT) (s : SV), apF F s (l ++ m) = apF F s l ++ apF F (stF F s l) m
  | [], m, s => rfl
  | x :: t, m, s => by
    have h := apF_app F t m (s.go9 F x)
    show (if s.ok F x = true then x :: apF F (s.go9 F x) (t ++ m) else apF F (s.go9 F x) (t ++ m)) = (if s.ok F x = true then x :: apF F (s.go9 F x) t else apF F (s.go9 F x) t) ++ apF F (stF F (s.go9 F x) t) m
    rw [h]
    split <;> rfl
/-- The document's rows: (how many ahead had something taken, has this one). -/
def rhF (cs : List CT) (ts : List Bool) : Nat → Nat × Bool
  | 0 => (0, false)
  | i + 1 =>
    let p := rhF cs ts i
    let h := p.2 || ts.getD i false
    if (cs.getD i default).r = (cs.getD (i + 1) default).r then (p.1, h) else (if h = true then p.1 + 1 else p.1, false)
theorem rhF_app (cs : List CT) (ts : List Bool) (x : List CT) (y : List Bool) : ∀ i, i < cs.length → i ≤ ts.length → rhF (cs ++ x) (ts ++ y) i = rhF cs ts i
  | 0, _, _ => rfl
  | i + 1, h1, h2 => by
    have h := rhF_app cs ts x y i (by omega) (by omega)
    unfold rhF
    rw [h]
    simp only [List.getD_eq_getElem?_getD]
    rw [List.getElem?_append_left (show i < cs.length by omega), List.getElem?_append_left h1, List.getElem?_append_left (show i < ts.length by omega)]
def docDn (F : FT) (cs : List CT) (ts : List Bool) : Bool := decide (F.ro ≠ 0) && decide (F.ro ≤ ((rhF cs ts (cs.length - 1)).1 : Int))
def colE (a c : CT) : Prop := a.r = c.r ∧ a.f = c.f ∧ a.q = c.q
instance (a c : CT) : Decidable (colE a c) := by unfold colE; infer_instance
/-- The document's count of what was taken ahead in the column. -/
def tcF (cs : List CT) (ts : List Bool) (c : CT) : Nat → Nat
  | 0 => 0
  | k + 1 => if colE (cs.getD k default) c then (if ts.getD k false = true then 1 else 0) + tcF cs ts c k else 0
theorem tcF_app (cs : List CT) (ts : List Bool) (x : List CT) (y : List Bool) (c : CT) : ∀ i, i ≤ cs.length → i ≤ ts.length → tcF (cs ++ x) (ts ++ y) c i = tcF cs ts c i
  | 0, _, _ => rfl
  | i + 1, h1, h2 => by
    have h := tcF_app cs ts x y c i (by omega) (by omega)
    unfold tcF
    rw [h]
    simp only [List.getD_eq_getElem?_getD]
    rw [List.getElem?_append_left (show i < cs.length by omega), List.getElem?_append_left (show i < ts.length by omega)]
def docOk (F : FT) (cs : List CT) (ts : List Bool) (c : CT) : Bool := F.lets c && !(decide (F.ve ≠ 0) && decide (F.ve ≤ (tcF cs ts c cs.length : Int))) && !docDn F (cs ++ [c]) (ts ++ [false])
theorem docDn_any (F : FT) (cs : List CT) (ts : List Bool) (c : CT) (b : Bool) (h : cs.length = ts.length) : docDn F (cs ++ [c]) (ts ++ [b]) = docDn F (cs ++ [c]) (ts ++ [false]) := by
  have h1 : ∀ (d : Bool) i, i ≤ cs.length → rhF (cs ++ [c]) (ts ++ [d]) i = rhF (cs ++ [c]) (ts ++ [false]) i := by
    intro d i
    induction i with
    | zero => intro _; rfl
    | succ i ih =>
      intro hi
      unfold rhF
      rw [ih (by omega)]
      simp only [List.getD_eq_getElem?_getD]
      rw [List.getElem?_append_left (l₂ := [d]) (show i < ts.length by omega), List.getElem?_append_left (l₂ := [false]) (show i < ts.length by omega)]
  unfold docDn
  rw [List.length_append, List.length_singleton, Nat.add_sub_cancel, h1 b _ (Nat.le_refl _)]
/-- A sieve stands where the document's does. -/
structure RelS (F : FT) (cs : List CT) (ts : List Bool) (s : SV) : Prop where
  len : cs.length = ts.length
  cnt : ∀ c : CT, tcF cs ts c cs.length = if c.r = s.r ∧ c.f = s.f ∧ c.q = s.q then s.tk else 0
  row : ∀ (c : CT) (b : Bool), rhF (cs ++ [c]) (ts ++ [b]) cs.length = (s.rw9 - (if c.r = s.r ∧ s.an = true then 1 else 0), decide (c.r = s.r ∧ s.an = true))
  pos : s.an = true → 0 < s.rw9 ∧ (F.ro ≠ 0 → (s.rw9 : Int) ≤ F.ro)
theorem relS_nil (F : FT) : RelS F [] [] SV.nil9 := ⟨rfl, fun c => by show 0 = _; split <;> rfl, fun c b => by show (0, false) = _; simp [SV.nil9], fun h => by cases h⟩
theorem rel_dn {F : FT} {cs : List CT} {ts : List Bool} {s : SV} (h : RelS F cs ts s) (c : CT) (b : Bool) : docDn F (cs ++ [c]) (ts ++ [b]) = (s.mv c).dn F := by
  have h1 := h.row c b
  unfold docDn SV.dn
  rw [List.length_append, List.length_singleton, Nat.add_sub_cancel, h1]
  show _ = (decide (F.ro ≠ 0) && true && !(if c.r = s.r then s.an else false) && decide (F.ro ≤ (s.rw9 : Int)))
  rw [Bool.and_true]
  by_cases h2 : c.r = s.r
  · by_cases h3 : s.an = true
    · have h4 := h.pos h3
      have h5 : ¬ (F.ro ≠ 0 ∧ F.ro ≤ ((s.rw9 - 1 : Nat) : Int)) := fun ⟨a, b⟩ => by have := h4.2 a; have := h4.1; omega
      rw [if_pos ⟨h2, h3⟩, if_pos h2, h3, Bool.not_true, Bool.and_false, Bool.false_and]
      rw [← Bool.decide_and]
      exact decide_eq_false h5
    · simp [h2, h3]
  · simp [h2]
theorem rel_ok {F : FT} {cs : List CT} {ts : List Bool} {s : SV} (h : RelS F cs ts s) (c : CT) : docOk F cs ts c = s.ok F c := by
  unfold docOk SV.ok
  rw [rel_dn h, h.cnt]
  rfl
theorem rel_step {F : FT} {cs : List CT} {ts : List Bool} {s : SV} (h : RelS F cs ts s) (c : CT) : RelS F (cs ++ [c]) (ts ++ [s.ok F c]) (s.go9 F c) := by
  have hl := h.len
  have e1 : (cs ++ [c]).length = cs.length + 1 := by rw [List.length_append]; rfl
  have gc : (cs ++ [c]).getD cs.length default = c := by rw [List.getD_eq_getElem?_getD, List.getElem?_append_right (Nat.le_refl _)]; simp
  have gt : (ts ++ [s.ok F c]).getD cs.length false = s.ok F c := by rw [List.getD_eq_getElem?_getD, List.getElem?_append_right (by omega), hl]; simp
  have hw : (s.go9 F c).r = c.r ∧ (s.go9 F c).f = c.f ∧ (s.go9 F c).q = c.q := by unfold SV.go9; split <;> exact ⟨rfl, rfl, rfl⟩
  obtain ⟨w1, w2, w3⟩ := hw
  have ht : (s.go9 F c).tk = (s.mv c).tk + if s.ok F c = true then 1 else 0 := by unfold SV.go9; split <;> rfl
  have ha : (s.go9 F c).an = ((s.mv c).an || s.ok F c) := by
    unfold SV.go9
    cases hq : s.ok F c
    · rw [if_neg (by simp), Bool.or_false]
    · rw [if_pos rfl, Bool.or_true]; rfl
  have hr : (s.go9 F c).rw9 = if s.ok F c = true ∧ (s.mv c).an = false then s.rw9 + 1 else s.rw9 := by
    unfold SV.go9
    cases hq : s.ok F c
    · simp; rfl
    · cases hq2 : (s.mv c).an
      · simp only [if_true, and_self]; unfold SV.tkn; rw [hq2]; rfl
      · simp only [if_true]; unfold SV.tkn; rw [hq2]; simp; rfl
  have hman : (s.mv c).an = decide (c.r = s.r ∧ s.an = true) := by
    show (if c.r = s.r then s.an else false) = _
    by_cases h2 : c.r = s.r <;> simp [h2]
  refine ⟨by rw [e1, List.length_append, hl]; rfl, fun d => ?_, fun d b => ?_, fun hx => ?_⟩
  · rw [e1]
    show (if colE ((cs ++ [c]).getD cs.length default) d then (if (ts ++ [s.ok F c]).getD cs.length false = true then 1 else 0) + tcF (cs ++ [c]) (ts ++ [s.ok F c]) d cs.length else 0) = _
    rw [gc, gt, tcF_app _ _ _ _ _ _ (Nat.le_refl _) (by omega), h.cnt, w1, w2, w3, ht]
    by_cases h2 : d.r = c.r ∧ d.f = c.f ∧ d.q = c.q
    · rw [if_pos (show colE c d from ⟨h2.1.symm, h2.2.1.symm, h2.2.2.symm⟩), if_pos h2, h2.1, h2.2.1, h2.2.2]
      exact Nat.add_comm _ _
    · rw [if_neg (fun h3 : colE c d => h2 ⟨h3.1.symm, h3.2.1.symm, h3.2.2.symm⟩), if_neg h2]
  · rw [e1]
    have hp : rhF (cs ++ [c] ++ [d]) (ts ++ [s.ok F c] ++ [b]) cs.length = (s.rw9 - (if c.r = s.r ∧ s.an = true then 1 else 0), decide (c.r = s.r ∧ s.an = true)) := by
      rw [rhF_app _ _ _ _ _ (by rw [e1]; omega) (by rw [List.length_append]; omega)]
      exact h.row c _
    have g1 : (cs ++ [c] ++ [d]).getD cs.length default = c := by
      rw [List.getD_eq_getElem?_getD, List.getElem?_append_left (by rw [e1]; omega), ← List.getD_eq_getElem?_getD]; exact gc
    have g2 : (cs ++ [c] ++ [d]).getD (cs.length + 1) default = d := by
      rw [List.getD_eq_getElem?_getD, List.getElem?_append_right (by rw [e1]; omega), e1, Nat.sub_self]; rfl
    have g3 : (ts ++ [s.ok F c] ++ [b]).getD cs.length false = s.ok F c := by
      rw [List.getD_eq_getElem?_getD, List.getElem?_append_left (by rw [List.length_append, List.length_singleton]; omega), ← List.getD_eq_getElem?_getD]; exact gt
    show (let p := rhF (cs ++ [c] ++ [d]) (ts ++ [s.ok F c] ++ [b]) cs.length
      let h := p.2 || (ts ++ [s.ok F c] ++ [b]).getD cs.length false
      if ((cs ++ [c] ++ [d]).getD cs.length default).r = ((cs ++ [c] ++ [d]).getD (cs.length + 1) default).r then (p.1, h) else (if h = true then p.1 + 1 else p.1, false)) = _
    rw [hp, g1, g2, g3, w1, ha, hr, hman]
    have hps : decide (c.r = s.r ∧ s.an = true) = true → 0 < s.rw9 := fun e => (h.pos (of_decide_eq_true e).2).1
    have e5 : (if c.r = s.r ∧ s.an = true then 1 else 0) = if decide (c.r = s.r ∧ s.an = true) = true then 1 else 0 := by simp only [decide_eq_true_eq]
    rw [e5]
    obtain ⟨A, hA⟩ : ∃ A, decide (c.r = s.r ∧ s.an = true) = A := ⟨_, rfl⟩
    obtain ⟨K, hK⟩ : ∃ K, s.ok F c = K := ⟨_, rfl⟩
    rw [hA] at hps ⊢
    rw [hK]
    clear hA hK e5
    by_cases q3 : c.r = d.r
    · rw [← q3]
      cases A <;> cases K <;> simp
      all_goals (have := hps rfl; omega)
    · have q4 : ¬ d.r = c.r := fun e => q3 e.symm
      cases A <;> cases K <;> simp [q3, q4]
      all_goals (have := hps rfl; omega)
  · rw [ha, hman] at hx
    rw [hr, hman]
    by_cases q1 : c.r = s.r ∧ s.an = true
    · have := h.pos q1.2
      rw [if_neg (by simp [q1])]
      exact this
    · have q2 : s.ok F c = true := by simpa [q1] using hx
      rw [if_pos ⟨q2, decide_eq_false q1⟩]
      refine ⟨by omega, fun h0 => ?_⟩
      have q3 := q2
      unfold SV.ok SV.dn at q3
      simp only [Bool.and_eq_true, Bool.not_eq_true', Bool.and_eq_false_iff, decide_eq_false_iff_not, hman, Bool.not_eq_false'] at q3
      rcases q3.2 with ((h3 | h3) | h3) | h3
      · exact absurd h0 h3
      · cases h3
      · exact absurd (of_decide_eq_true h3) q1
      · have h3 : ¬ F.ro ≤ (s.rw9 : Int) := h3
        omega
end Go.Proofs.YtgfkobfkncpmoaaDoor
