/- What is asked for again: mathematics of layer 13 over cells in order. Conditions: as each theorem names them. -/
import Derived.Test.YtgfkobfkncpmoaaDoorFtL
import Derived.Test.YtgfkobfkncpmoaaDoorII
namespace Go.Proofs.YtgfkobfkncpmoaaDoor
open Go.RowKit

theorem cmp_lex13 (x y : CT) : CT.cmp x y = (if Lib.compareBytes x.r.data.toList y.r.data.toList = 0 then (if Lib.compareBytes x.f.data.toList y.f.data.toList = 0 then (if Lib.compareInt (rankC x.k) (rankC y.k) = 0 then (if Lib.compareBytes x.q.data.toList y.q.data.toList = 0 then (if Lib.compareInt y.t x.t = 0 then (if Lib.compareInt y.k x.k = 0 then 0 else Lib.compareInt y.k x.k) else Lib.compareInt y.t x.t) else Lib.compareBytes x.q.data.toList y.q.data.toList) else Lib.compareInt (rankC x.k) (rankC y.k)) else Lib.compareBytes x.f.data.toList y.f.data.toList) else Lib.compareBytes x.r.data.toList y.r.data.toList) := rfl
theorem lex_le13 {f g : Int} (h : (if f = 0 then g else f) ≤ 0) : f ≤ 0 ∧ (f = 0 → g ≤ 0) := by
  split at h
  · exact ⟨by omega, fun _ => h⟩
  · exact ⟨h, fun e => by omega⟩
theorem ba_eq13 {x y : ByteArray} (h : x.data.toList = y.data.toList) : x = y := by
  apply ByteArray.ext
  exact Array.toList_inj.1 h
theorem ba_between13 {x y : ByteArray} (h1 : Lib.compareBytes x.data.toList y.data.toList ≤ 0) (h2 : Lib.compareBytes y.data.toList x.data.toList ≤ 0) : x = y := by
  have := cmpB_neg x.data.toList y.data.toList
  exact ba_eq13 (cmpB_zero _ _ (by omega))
theorem int_le13 {a b : Int} (h : Lib.compareInt a b ≤ 0) : a ≤ b := by
  unfold Lib.compareInt at h
  split at h
  · omega
  · split at h <;> omega
theorem int_eq13 {a b : Int} (h : a = b) : Lib.compareInt a b = 0 := by
  subst h
  unfold Lib.compareInt
  split
  · omega
  · rfl
theorem cmpB_self13 (l : List UInt8) : Lib.compareBytes l l = 0 := by
  have := cmpB_neg l l
  omega
/-- The four parts of an order. -/
theorem cmp_parts {x y : CT} (h : CT.cmp x y ≤ 0) : Lib.compareBytes x.r.data.toList y.r.data.toList ≤ 0 ∧ (x.r = y.r → Lib.compareBytes x.f.data.toList y.f.data.toList ≤ 0 ∧ (x.f = y.f → rankC x.k ≤ rankC y.k ∧ (rankC x.k = rankC y.k → Lib.compareBytes x.q.data.toList y.q.data.toList ≤ 0))) := by
  rw [cmp_lex13] at h
  obtain ⟨h1, h⟩ := lex_le13 h
  refine ⟨h1, fun e => ?_⟩
  obtain ⟨h2, h⟩ := lex_le13 (h (by rw [e]; exact cmpB_self13 _))
  refine ⟨h2, fun e => ?_⟩
  obtain ⟨h3, h⟩ := lex_le13 (h (by rw [e]; exact cmpB_self13 _))
  refine ⟨int_le13 h3, fun e => ?_⟩
  exact (lex_le13 (h (int_eq13 e))).1
theorem row_between {b c d : CT} (h : d.r = b.r) (h1 : CT.cmp b c ≤ 0) (h2 : CT.cmp c d ≤ 0) : c.r = b.r := by
  have k1 := (cmp_parts h1).1
  have k2 := (cmp_parts h2).1
  rw [h] at k2
  exact (ba_between13 k1 k2).symm
theorem ok_k4 {c : CT} (h : c.ok = true) (hk : c.k = 4) : c.q.data.toList = [] := by
  have h : (cHead c.r.data.toList c.f.data.toList c.q.data.toList c.t && cTail c.q.data.toList c.k c.vk c.vn c.s.data.toList) = true := h
  rw [Bool.and_eq_true] at h
  have h2 := h.2
  unfold cTail at h2
  rw [hk, if_neg (by decide), if_neg (by decide), if_pos rfl, Bool.and_eq_true] at h2
  exact List.isEmpty_iff.1 h2.1
theorem ok_row {c : CT} (h : c.ok = true) : c.r ≠ ⟨#[]⟩ := by
  have h : (cHead c.r.data.toList c.f.data.toList c.q.data.toList c.t && cTail c.q.data.toList c.k c.vk c.vn c.s.data.toList) = true := h
  rw [Bool.and_eq_true] at h
  have h1 := h.1
  unfold cHead at h1
  simp only [Bool.and_eq_true, decide_eq_true_eq] at h1
  intro e
  rw [e] at h1
  exact absurd h1.1.1 (by decide)
theorem rank_01 (k : Int) : rankC k = 0 ∧ k = 4 ∨ rankC k = 1 ∧ k ≠ 4 := by
  unfold rankC
  by_cases h : k = 4
  · exact .inl ⟨if_pos h, h⟩
  · exact .inr ⟨if_neg h, h⟩
theorem cmpB_nil13 {l : List UInt8} (h : Lib.compareBytes l [] ≤ 0) : l = [] := by
  cases l with
  | nil => rfl
  | cons a t =>
    have : Lib.compareBytes (a :: t) [] = 1 := rfl
    omega
theorem col_between13 {b c d : CT} (hb : b.ok = true) (hc : c.ok = true) (h : d.r = b.r ∧ d.f = b.f ∧ d.q = b.q) (h1 : CT.cmp b c ≤ 0) (h2 : CT.cmp c d ≤ 0) : c.r = b.r ∧ c.f = b.f ∧ c.q = b.q := by
  have er := row_between h.1 h1 h2
  have k1 := (cmp_parts h1).2 er.symm
  have k2 := (cmp_parts h2).2 (er.trans h.1.symm)
  have ef : c.f = b.f := by
    have k3 := k2.1
    rw [h.2.1] at k3
    exact (ba_between13 k1.1 k3).symm
  have m1 := k1.2 ef.symm
  have m2 := k2.2 (ef.trans h.2.1.symm)
  refine ⟨er, ef, ?_⟩
  rcases rank_01 b.k with ⟨b1, b2⟩ | ⟨b1, b2⟩ <;> rcases rank_01 c.k with ⟨c1, c2⟩ | ⟨c1, c2⟩ <;> rcases rank_01 d.k with ⟨d1, d2⟩ | ⟨d1, d2⟩
  · exact ba_eq13 (by rw [ok_k4 hb b2, ok_k4 hc c2])
  · exact ba_eq13 (by rw [ok_k4 hb b2, ok_k4 hc c2])
  · have := m2.1; omega
  · have n2 := m2.2 (by omega)
    rw [h.2.2, ok_k4 hb b2] at n2
    exact ba_eq13 (by rw [cmpB_nil13 n2, ok_k4 hb b2])
  · have := m1.1; omega
  · have := m1.1; omega
  · have := m2.1; omega
  · have n1 := m1.2 (by omega)
    have n2 := m2.2 (by omega)
    rw [h.2.2] at n2
    exact (ba_between13 n1 n2).symm
/-- No column, no row comes again behind another one. -/
def cgF : ByteArray → ByteArray → ByteArray → List CT → Prop
  | _, _, _, [] => True
  | r, f, q, c :: t => (∀ d ∈ t, (d.r = r ∧ d.f = f ∧ d.q = q) → (c.r = r ∧ c.f = f ∧ c.q = q)) ∧ (∀ d ∈ t, d.r = r → c.r = r) ∧ cgF c.r c.f c.q t
theorem cg_run : ∀ (t : List CT) (b : CT), b.ok = true → (∀ c ∈ t, c.ok = true) → ((b :: t).Pairwise fun x y => CT.cmp x y < 0) → cgF b.r b.f b.q t
  | [], _, _, _, _ => trivial
  | c :: t, b, hb, hc, hp => by
    obtain ⟨p1, p2⟩ := List.pairwise_cons.1 hp
    obtain ⟨p3, _⟩ := List.pairwise_cons.1 p2
    have h1 : CT.cmp b c ≤ 0 := by have := p1 c (List.mem_cons_self ..); omega
    refine ⟨fun d hd h => col_between13 hb (hc c (List.mem_cons_self ..)) h h1 (by have := p3 d hd; omega), fun d hd h => row_between h h1 (by have := p3 d hd; omega), ?_⟩
    exact cg_run t c (hc c (List.mem_cons_self ..)) (fun x hx => hc x (List.mem_cons_of_mem _ hx)) p2
theorem cg_start {l : List CT} (h : (∀ c ∈ l, c.ok = true) ∧ l.Pairwise fun x y => CT.cmp x y < 0) : cgF ⟨#[]⟩ ⟨#[]⟩ ⟨#[]⟩ l := by
  cases l with
  | nil => trivial
  | cons c t =>
    have ho := h.1
    refine ⟨fun d hd e => absurd e.1 (ok_row (ho d (List.mem_cons_of_mem _ hd))), fun d hd e => absurd e (ok_row (ho d (List.mem_cons_of_mem _ hd))), ?_⟩
    exact cg_run t c (ho c (List.mem_cons_self ..)) (fun x hx => ho x (List.mem_cons_of_mem _ hx)) h.2
theorem again13 (F : FT) : ∀ (t : List CT) (s s' : SV), s.rw9 = s'.rw9 → (∀ c ∈ t, (s.mv c).tk = (s'.mv c).tk ∧ (s.mv c).an = (s'.mv c).an) → cgF s.r s.f s.q t → apF F s' (apF F s t) = apF F s t
  | [], _, _, _, _, _ => rfl
  | c :: t, s, s', hw, hr, hg => by
    obtain ⟨g1, g2, g3⟩ := hg
    have hm : s'.mv c = s.mv c := by
      obtain ⟨h1, h2⟩ := hr c (List.mem_cons_self ..)
      have h1 : (if c.r = s.r ∧ c.f = s.f ∧ c.q = s.q then s.tk else 0) = (if c.r = s'.r ∧ c.f = s'.f ∧ c.q = s'.q then s'.tk else 0) := h1
      have h2 : (if c.r = s.r then s.an else false) = (if c.r = s'.r then s'.an else false) := h2
      show SV.mk _ _ _ _ (if c.r = s'.r ∧ c.f = s'.f ∧ c.q = s'.q then s'.tk else 0) (if c.r = s'.r then s'.an else false) s'.rw9 = SV.mk _ _ _ _ (if c.r = s.r ∧ c.f = s.f ∧ c.q = s.q then s.tk else 0) (if c.r = s.r then s.an else false) s.rw9
      rw [h1, h2, hw]
    have hok : s'.ok F c = s.ok F c := by unfold SV.ok; rw [hm]
    have hgo : s'.go9 F c = s.go9 F c := by unfold SV.go9; rw [hok, hm]
    have hcol : (s.go9 F c).r = c.r ∧ (s.go9 F c).f = c.f ∧ (s.go9 F c).q = c.q := by unfold SV.go9; split <;> exact ⟨rfl, rfl, rfl⟩
    by_cases h : s.ok F c = true
    · have e : apF F s (c :: t) = c :: apF F (s.go9 F c) t := if_pos h
      rw [e]
      have e2 : apF F s' (c :: apF F (s.go9 F c) t) = c :: apF F (s'.go9 F c) (apF F (s.go9 F c) t) := if_pos (by rw [hok]; exact h)
      rw [e2, hgo, again13 F t (s.go9 F c) (s.go9 F c) rfl (fun _ _ => ⟨rfl, rfl⟩) (by rw [hcol.1, hcol.2.1, hcol.2.2]; exact g3)]
    · have e : apF F s (c :: t) = apF F (s.go9 F c) t := if_neg h
      have e3 : s.go9 F c = s.mv c := if_neg h
      rw [e, e3]
      refine again13 F t (s.mv c) s' hw (fun d hd => ?_) g3
      obtain ⟨h1, h2⟩ := hr d (List.mem_cons_of_mem _ hd)
      rw [← h1, ← h2]
      constructor
      · show (if d.r = c.r ∧ d.f = c.f ∧ d.q = c.q then (if c.r = s.r ∧ c.f = s.f ∧ c.q = s.q then s.tk else 0) else 0) = (if d.r = s.r ∧ d.f = s.f ∧ d.q = s.q then s.tk else 0)
        by_cases k : d.r = c.r ∧ d.f = c.f ∧ d.q = c.q
        · rw [if_pos k, k.1, k.2.1, k.2.2]
        · rw [if_neg k, if_neg fun k2 => k ?_]
          obtain ⟨j1, j2, j3⟩ := g1 d hd k2
          exact ⟨k2.1.trans j1.symm, k2.2.1.trans j2.symm, k2.2.2.trans j3.symm⟩
      · show (if d.r = c.r then (if c.r = s.r then s.an else false) else false) = (if d.r = s.r then s.an else false)
        by_cases k : d.r = c.r
        · rw [if_pos k, k]
        · rw [if_neg k, if_neg fun k2 => k (k2.trans (g2 d hd k2).symm)]
/-- What was asked for is asked for again. -/
theorem apL_again (F : FT) {l : List CT} (h : (∀ c ∈ l, c.ok = true) ∧ l.Pairwise fun x y => CT.cmp x y < 0) : apL F (apL F l) = apL F l := by
  unfold apL
  split
  · exact again13 F l SV.nil9 SV.nil9 rfl (fun _ _ => ⟨rfl, rfl⟩) (cg_start h)
  · rfl
/-- Without limits all that is let is. -/
theorem apF_all (F : FT) (h1 : F.ve = 0) (h2 : F.ro = 0) : ∀ (t : List CT) (s : SV), apF F s t = t.filter F.lets
  | [], _ => rfl
  | c :: t, s => by
    have h : s.ok F c = F.lets c := by
      unfold SV.ok SV.en SV.dn
      rw [h1, h2]
      simp
    show (if s.ok F c = true then c :: apF F (s.go9 F c) t else apF F (s.go9 F c) t) = _
    rw [h, apF_all F h1 h2 t, List.filter_cons]
def FT.free (F : FT) : FT := ⟨F.fams, F.fr, F.tq, F.si, F.un, 0, 0⟩
theorem free_right {F : FT} (h : F.right = true) : F.free.right = true := by
  unfold FT.right at h ⊢
  simp only [Bool.and_eq_true] at h ⊢
  exact ⟨h.1, ⟨⟨rfl, rfl⟩, rfl, rfl⟩⟩
theorem apL_all {F : FT} (h : F.right = true) (l : List CT) : apL F.free l = l.filter F.lets := by
  unfold apL
  rw [if_pos (free_right h), apF_all F.free rfl rfl]
  rfl
theorem apL_sub (F : FT) (l : List CT) : (apL F l).length ≤ l.length := by
  unfold apL
  split
  · exact apF_len F l _
  · exact Nat.zero_le _
theorem apF_mem (F : FT) : ∀ (l : List CT) (s : SV) (c : CT), c ∈ apF F s l → c ∈ l
  | [], _, _, h => by cases h
  | x :: t, s, c, h => by
    have h : c ∈ (if s.ok F x = true then x :: apF F (s.go9 F x) t else apF F (s.go9 F x) t) := h
    split at h
    · rcases List.mem_cons.1 h with e | h
      · exact List.mem_cons.2 (.inl e)
      · exact List.mem_cons.2 (.inr (apF_mem F t _ c h))
    · exact List.mem_cons.2 (.inr (apF_mem F t _ c h))
end Go.Proofs.YtgfkobfkncpmoaaDoor
