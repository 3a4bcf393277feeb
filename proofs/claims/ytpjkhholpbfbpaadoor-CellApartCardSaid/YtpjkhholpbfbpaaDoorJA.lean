/- With one version less: what is let is among what is let with it, in order, and it is half of it at least. -/
import Derived.Test.YtpjkhholpbfbpaaDoorID
namespace Go.Proofs.YtpjkhholpbfbpaaDoor
open Go.RowKit

/-- Is the first list found in the second, in order? The statement's walk. -/
def subM {α : Type} [DecidableEq α] : List α → List α → Bool
  | [], _ => true
  | _ :: _, [] => false
  | x :: a, y :: b => if y = x then subM a b else subM (x :: a) b
theorem subM_of {α : Type} [DecidableEq α] : ∀ (b a : List α), a.Sublist b → subM a b = true
  | _, [], _ => by unfold subM; rfl
  | [], _ :: _, h => by cases h
  | y :: b, x :: a, h => by
    unfold subM
    by_cases e : y = x
    · rw [if_pos e]
      refine subM_of b a ?_
      cases h with
      | cons _ h => exact (List.sublist_cons_self x a).trans h
      | cons_cons _ h => exact h
    · rw [if_neg e]
      refine subM_of b (x :: a) ?_
      cases h with
      | cons _ h => exact h
      | cons_cons _ h => exact absurd rfl e

/-- How the two sights stand to each other. -/
structure LessI (ver : Int) (g h : SG) : Prop where
  at' : g.at' = h.at'
  fam : g.fam = h.fam
  col : g.col = h.col
  cell : g.cell = h.cell
  lo : 0 ≤ g.seen
  seen : (g.seen < ver ∧ h.seen = g.seen) ∨ (g.seen = ver ∧ (h.seen = ver ∨ h.seen = ver + 1))
def slack (ver : Int) (g h : SG) : Nat := if 1 ≤ g.seen ∧ h.seen ≤ ver then 1 else 0
theorem less_move {ver : Int} {g h : SG} (hv : 1 ≤ ver) (i : LessI ver g h) (c : CT) : LessI ver (g.move c) (h.move c) ∧ slack ver (g.move c) (h.move c) ≤ slack ver g h := by
  unfold SG.move
  rw [i.at']
  by_cases h1 : c.r ≠ h.at'.r ∨ c.f ≠ h.at'.f
  · rw [if_pos h1, if_pos h1]
    refine ⟨⟨rfl, rfl, rfl, rfl, by show (0 : Int) ≤ 0; omega, .inl ⟨by show (0 : Int) < ver; omega, rfl⟩⟩, ?_⟩
    unfold slack
    rw [if_neg (by show ¬ ((1 : Int) ≤ 0 ∧ _); omega)]
    exact Nat.zero_le _
  · rw [if_neg h1, if_neg h1]
    by_cases h2 : c.q ≠ h.at'.q
    · rw [if_pos h2, if_pos h2]
      refine ⟨⟨rfl, i.fam, rfl, rfl, by show (0 : Int) ≤ 0; omega, .inl ⟨by show (0 : Int) < ver; omega, rfl⟩⟩, ?_⟩
      unfold slack
      rw [if_neg (by show ¬ ((1 : Int) ≤ 0 ∧ _); omega)]
      exact Nat.zero_le _
    · rw [if_neg h2, if_neg h2]
      exact ⟨⟨rfl, i.fam, i.col, i.cell, i.lo, i.seen⟩, Nat.le_refl _⟩
theorem less_go (ver life now : Int) (hv : 1 ≤ ver) (h8 : ver ≤ 7) : ∀ (m : List CT) (g h : SG), LessI ver g h →
    (seenF ver life now g m).Sublist (seenF (ver + 1) life now h m) ∧ (seenF (ver + 1) life now h m).length ≤ 2 * (seenF ver life now g m).length + slack ver g h
  | [], g, h, _ => ⟨List.Sublist.refl _, by show 0 ≤ _; omega⟩
  | c :: m, g, h, i => by
    obtain ⟨j, hsl⟩ := less_move hv i c
    have step : ((g.lets c ver life now).2 = (h.lets c (ver + 1) life now).2 ∧ LessI ver (g.lets c ver life now).1 (h.lets c (ver + 1) life now).1 ∧ ((g.lets c ver life now).2 = false → slack ver (g.lets c ver life now).1 (h.lets c (ver + 1) life now).1 ≤ slack ver (g.move c) (h.move c))) ∨
        ((g.lets c ver life now).2 = false ∧ (h.lets c (ver + 1) life now).2 = true ∧ LessI ver (g.lets c ver life now).1 (h.lets c (ver + 1) life now).1 ∧ slack ver (g.move c) (h.move c) = 1 ∧ slack ver (g.lets c ver life now).1 (h.lets c (ver + 1) life now).1 = 0) := by
      have hhas : (h.move c).has c.t = (g.move c).has c.t := by unfold SG.has; rw [j.col, j.fam, j.cell]
      have jl := j.lo
      have js := j.seen
      unfold SG.lets
      simp only
      rw [hhas]
      by_cases k4 : c.k = 4
      · rw [if_pos k4, if_pos k4]
        exact .inl ⟨rfl, ⟨j.at', by show max _ _ = max _ _; rw [j.fam], j.col, j.cell, j.lo, j.seen⟩, fun _ => Nat.le_refl _⟩
      rw [if_neg k4, if_neg k4]
      by_cases k3 : c.k = 3
      · rw [if_pos k3, if_pos k3]
        exact .inl ⟨rfl, ⟨j.at', j.fam, rfl, j.cell, j.lo, j.seen⟩, fun _ => Nat.le_refl _⟩
      rw [if_neg k3, if_neg k3]
      by_cases k2 : c.k = 2
      · rw [if_pos k2, if_pos k2]
        exact .inl ⟨rfl, ⟨j.at', j.fam, j.col, rfl, j.lo, j.seen⟩, fun _ => Nat.le_refl _⟩
      rw [if_neg k2, if_neg k2]
      by_cases hc : c.k = 1 ∧ (g.move c).has c.t = true ∧ livesM life now c.t = true
      · obtain ⟨a1, a2, a3⟩ := hc
        rcases js with ⟨s1, s2⟩ | ⟨s1, s2 | s2⟩
        · rw [if_pos ⟨a1, a2, a3, s1⟩, if_pos ⟨a1, a2, a3, by omega⟩]
          have w1 : IntKind.i64.wrap ((g.move c).seen + 1) = (g.move c).seen + 1 := by rw [IntKind.wrap_i64]; omega
          refine .inl ⟨rfl, ⟨j.at', j.fam, j.col, j.cell, ?_, ?_⟩, fun q => by cases q⟩
          · show 0 ≤ IntKind.i64.wrap ((g.move c).seen + 1)
            rw [w1]; omega
          · show (IntKind.i64.wrap ((g.move c).seen + 1) < ver ∧ IntKind.i64.wrap ((h.move c).seen + 1) = IntKind.i64.wrap ((g.move c).seen + 1)) ∨ (IntKind.i64.wrap ((g.move c).seen + 1) = ver ∧ (IntKind.i64.wrap ((h.move c).seen + 1) = ver ∨ IntKind.i64.wrap ((h.move c).seen + 1) = ver + 1))
            rw [s2, w1]; omega
        · rw [if_neg (by rintro ⟨-, -, -, q⟩; omega), if_pos ⟨a1, a2, a3, by omega⟩]
          have w1 : IntKind.i64.wrap ((h.move c).seen + 1) = (h.move c).seen + 1 := by rw [IntKind.wrap_i64]; omega
          refine .inr ⟨rfl, rfl, ⟨j.at', j.fam, j.col, j.cell, j.lo, .inr ⟨s1, .inr ?_⟩⟩, ?_, ?_⟩
          · show IntKind.i64.wrap ((h.move c).seen + 1) = ver + 1
            rw [w1]; omega
          · unfold slack; rw [if_pos ⟨by omega, by omega⟩]
          · unfold slack
            rw [if_neg]
            rintro ⟨-, q⟩
            have q : IntKind.i64.wrap ((h.move c).seen + 1) ≤ ver := q
            rw [w1] at q; omega
        · rw [if_neg (by rintro ⟨-, -, -, q⟩; omega), if_neg (by rintro ⟨-, -, -, q⟩; omega)]
          exact .inl ⟨rfl, j, fun _ => Nat.le_refl _⟩
      · rw [if_neg (fun q => hc ⟨q.1, q.2.1, q.2.2.1⟩), if_neg (fun q => hc ⟨q.1, q.2.1, q.2.2.1⟩)]
        exact .inl ⟨rfl, j, fun _ => Nat.le_refl _⟩
    show (if (g.lets c ver life now).2 = true then c :: seenF ver life now (g.lets c ver life now).1 m else seenF ver life now (g.lets c ver life now).1 m).Sublist (if (h.lets c (ver + 1) life now).2 = true then c :: seenF (ver + 1) life now (h.lets c (ver + 1) life now).1 m else seenF (ver + 1) life now (h.lets c (ver + 1) life now).1 m) ∧ (if (h.lets c (ver + 1) life now).2 = true then c :: seenF (ver + 1) life now (h.lets c (ver + 1) life now).1 m else seenF (ver + 1) life now (h.lets c (ver + 1) life now).1 m).length ≤ 2 * (if (g.lets c ver life now).2 = true then c :: seenF ver life now (g.lets c ver life now).1 m else seenF ver life now (g.lets c ver life now).1 m).length + slack ver g h
    rcases step with ⟨e, ji, hs⟩ | ⟨e1, e2, ji, z1, z2⟩
    · obtain ⟨r1, r2⟩ := less_go ver life now hv h8 m _ _ ji
      have s1 : slack ver (g.lets c ver life now).1 (h.lets c (ver + 1) life now).1 ≤ 1 := by unfold slack; split <;> omega
      rw [← e]
      cases hb : (g.lets c ver life now).2 with
      | true =>
        simp only [if_true]
        exact ⟨List.Sublist.cons_cons _ r1, by simp only [List.length_cons]; omega⟩
      | false =>
        have := hs hb
        rw [if_neg (by decide), if_neg (by decide)]
        exact ⟨r1, by omega⟩
    · obtain ⟨r1, r2⟩ := less_go ver life now hv h8 m _ _ ji
      rw [e1, e2, if_neg (by decide), if_pos rfl]
      exact ⟨r1.cons _, by simp only [List.length_cons]; omega⟩
theorem less_all (ver life now : Int) (hv : 1 ≤ ver) (h8 : ver ≤ 7) (s : List CT) : (seenL ver life now s).Sublist (seenL (ver + 1) life now s) ∧ (seenL (ver + 1) life now s).length ≤ 2 * (seenL ver life now s).length := by
  unfold seenL
  have e : rightM (ver + 1) life = rightM ver life := by
    unfold rightM
    rw [decide_eq_true hv, decide_eq_true (by omega : 1 ≤ ver + 1), decide_eq_true (by omega : ver ≤ 8), decide_eq_true (by omega : ver + 1 ≤ 8)]
  rw [e]
  split
  · have := less_go ver life now hv h8 s SG.zero SG.zero ⟨rfl, rfl, rfl, rfl, by decide, .inl ⟨by show (0 : Int) < ver; omega, rfl⟩⟩
    have z : slack ver SG.zero SG.zero = 0 := rfl
    rw [z] at this
    exact this
  · exact ⟨List.Sublist.refl _, Nat.zero_le _⟩
end Go.Proofs.YtpjkhholpbfbpaaDoor
