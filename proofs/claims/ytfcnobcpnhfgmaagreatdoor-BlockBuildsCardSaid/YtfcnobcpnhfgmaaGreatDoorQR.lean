/- Several texts in one: NUa NWa NWb. Conditions: as each theorem names them. -/
import Derived.Test.YtfcnobcpnhfgmaaGreatDoorNL
import Derived.Test.YtfcnobcpnhfgmaaGreatDoorQN
import Derived.Test.YtfcnobcpnhfgmaaGreatDoorQI
import Derived.Deep.RegionLawGrows
import Derived.Deep.RegionHeld3
/- Plain mathematics: cells in parts: how great a part is, and what stands next behind it. Conditions: as each theorem names them. -/
namespace Go.Proofs.YtfcnobcpnhfgmaaGreatDoor

/-- How many bytes some cells count for. -/
def sumE : List CT → Nat
  | [] => 0
  | c :: l => encN c + sumE l
theorem sumE_snoc : ∀ (l : List CT) (c : CT), sumE (l ++ [c]) = sumE l + encN c
  | [], c => by
    show encN c + 0 = 0 + encN c
    omega
  | d :: l, c => by
    have := sumE_snoc l c
    show encN d + sumE (l ++ [c]) = (encN d + sumE l) + encN c
    omega
theorem sumE_take {l : List CT} {k : Nat} {c : CT} (h : l[k]? = some c) : sumE (l.take (k + 1)) = sumE (l.take k) + encN c := by
  rw [List.take_add_one, h]
  exact sumE_snoc _ _
theorem fitGo_fits {size : Int} : ∀ (l : List CT) (i t : Nat), 0 < i → 0 < fitGo size i t l → ((t + sumE (l.take (fitGo size i t l)) : Nat) : Int) ≤ size
  | [], i, t, _, h => absurd h (by simp [fitGo])
  | c :: l, i, t, hi, h => by
    by_cases hc : 0 < i ∧ size < ((t + encN c : Nat) : Int)
    · rw [fitGo_stop hc.1 hc.2] at h
      cases h
    · have hle : ((t + encN c : Nat) : Int) ≤ size := by omega
      rw [fitGo_go hc, List.take_succ_cons]
      show ((t + (encN c + sumE _) : Nat) : Int) ≤ size
      rcases Nat.eq_zero_or_pos (fitGo size (i + 1) (t + encN c) l) with e | e
      · rw [e, List.take_zero]
        show ((t + (encN c + 0) : Nat) : Int) ≤ size
        omega
      · have := fitGo_fits l (i + 1) (t + encN c) (by omega) e
        omega
theorem fitGo_next {size : Int} : ∀ (l : List CT) (i t : Nat) (c : CT), l[fitGo size i t l]? = some c → size < ((t + sumE (l.take (fitGo size i t l)) + encN c : Nat) : Int)
  | [], _, _, _, h => by simp at h
  | d :: l, i, t, c, h => by
    by_cases hc : 0 < i ∧ size < ((t + encN d : Nat) : Int)
    · rw [fitGo_stop hc.1 hc.2] at h ⊢
      have : d = c := by simpa using h
      subst this
      rw [List.take_zero]
      show size < ((t + 0 + encN d : Nat) : Int)
      have := hc.2
      omega
    · rw [fitGo_go hc] at h ⊢
      rw [List.getElem?_cons_succ] at h
      have := fitGo_next l (i + 1) (t + encN d) c h
      rw [List.take_succ_cons]
      show size < ((t + (encN d + sumE _) + encN c : Nat) : Int)
      omega
theorem fitN_fits {size : Int} {l : List CT} (hl : l.length ≤ 1000) (h : 1 < fitN size l) : ((sumE (l.take (fitN size l)) : Nat) : Int) ≤ size := by
  unfold fitN at h ⊢
  rw [List.take_of_length_le hl] at h ⊢
  cases l with
  | nil => exact absurd h (by simp [fitGo])
  | cons c l =>
    rw [fitGo_go (by omega)] at h ⊢
    have h2 : 0 < fitGo size (0 + 1) (0 + encN c) l := by omega
    have := fitGo_fits l (0 + 1) (0 + encN c) (by omega) h2
    rw [List.take_succ_cons]
    show ((encN c + sumE _ : Nat) : Int) ≤ size
    omega
theorem fitN_next {size : Int} {l : List CT} (hl : l.length ≤ 1000) {c : CT} (h : l[fitN size l]? = some c) : size < ((sumE (l.take (fitN size l)) + encN c : Nat) : Int) := by
  unfold fitN at h ⊢
  rw [List.take_of_length_le hl] at h ⊢
  have := fitGo_next l 0 0 c h
  omega

/-- What is so of cells in parts. -/
structure Cuts (size : Int) (l : List CT) (ps : List (List CT)) : Prop where
  flat : ps.flatten = l
  one : ∀ (i : Nat) (p : List CT), ps[i]? = some p → 0 < p.length ∧ (1 < p.length → ((sumE p : Nat) : Int) ≤ size)
  next : ∀ (i : Nat) (p q : List CT) (c : CT), ps[i]? = some p → ps[i + 1]? = some q → q[0]? = some c → size < ((sumE p + encN c : Nat) : Int)
theorem cuts_all (size : Int) : ∀ (n : Nat) (l : List CT), l.length ≤ n → l.length ≤ 1000 → Cuts size l (cutL size l)
  | n, [], _, _ => by
    rw [cutL_nil]
    exact ⟨rfl, fun i p h => by simp at h, fun i p q c h => by simp at h⟩
  | 0, c :: l, h, _ => absurd h (by simp)
  | n + 1, c :: l, h, hl => by
    have h0 : 0 < (c :: l).length := by simp
    have hp := fitN_pos size h0
    have hf := fitN_fits (size := size) hl
    have hx := fun c => fitN_next (size := size) (c := c) hl
    have hle := fitN_le size (c :: l)
    rw [cutL_more size h0]
    generalize c :: l = L at *
    generalize fitN size L = m at *
    have hd : (L.drop m).length ≤ n := by rw [List.length_drop]; omega
    have IH := cuts_all size n (L.drop m) hd (by rw [List.length_drop]; omega)
    refine ⟨?_, fun i p hi => ?_, fun i p q x hi hq hx0 => ?_⟩
    · rw [List.flatten_cons, IH.flat, List.take_append_drop]
    · cases i with
      | zero =>
        obtain rfl : L.take m = p := by simpa using hi
        have e : (L.take m).length = m := by rw [List.length_take]; omega
        rw [e]
        exact ⟨hp, hf⟩
      | succ i => exact IH.one i p (by simpa using hi)
    · cases i with
      | zero =>
        obtain rfl : L.take m = p := by simpa using hi
        rw [List.getElem?_cons_succ] at hq
        rcases Nat.eq_zero_or_pos (L.drop m).length with e | e
        · rw [List.eq_nil_of_length_eq_zero e, cutL_nil] at hq
          simp at hq
        · have hp2 := fitN_pos size e
          rw [cutL_more size e] at hq
          obtain rfl : (L.drop m).take (fitN size (L.drop m)) = q := by simpa using hq
          rw [List.getElem?_take_of_lt hp2, List.getElem?_drop, Nat.add_zero] at hx0
          exact hx x hx0
      | succ i => exact IH.next i p q x (by simpa using hi) (by simpa using hq) hx0
end Go.Proofs.YtfcnobcpnhfgmaaGreatDoor

/- Plain mathematics: cells in parts, cell by cell; lists of parts in memory, the last one growing. Conditions: as each theorem names them. -/
namespace Go.Proofs.YtfcnobcpnhfgmaaGreatDoor
open Go.RowKit

/-- Cells in parts, x being the part that is under way. -/
def cutGo (size : Int) : List CT → List CT → List (List CT)
  | x, [] => [x]
  | x, c :: r => if size < ((sumE x + encN c : Nat) : Int) then x :: cutGo size [c] r else cutGo size (x ++ [c]) r
theorem cut_go (size : Int) : ∀ (rest x : List CT), 0 < x.length → (x ++ rest).length ≤ 1000 → fitGo size 0 0 (x ++ rest) = x.length + fitGo size x.length (sumE x) rest → cutL size (x ++ rest) = cutGo size x rest
  | [], x, hx, hl, hf => by
    rw [List.append_nil] at hf hl ⊢
    have e : fitN size x = x.length := by
      unfold fitN
      rw [List.take_of_length_le hl, hf]
      rfl
    rw [cutL_more size hx, e, List.take_length, List.drop_length, cutL_nil]
    rfl
  | c :: r, x, hx, hl, hf => by
    by_cases hs : size < ((sumE x + encN c : Nat) : Int)
    · rw [fitGo_stop hx hs] at hf
      have e : fitN size (x ++ c :: r) = x.length := by
        unfold fitN
        rw [List.take_of_length_le hl, hf]
        rfl
      rw [cutL_more size (by rw [List.length_append]; omega), e, List.take_left, List.drop_left]
      have h2 := cut_go size r [c] (by simp) (by rw [List.length_append] at hl ⊢; simp only [List.length_cons, List.length_nil] at hl ⊢; omega) (by
        show fitGo size 0 0 (c :: r) = 1 + fitGo size 1 (encN c) r
        rw [fitGo_go (by omega), Nat.zero_add, Nat.zero_add, Nat.add_comm])
      rw [cutGo, if_pos hs, ← h2]
      rfl
    · have hn : ¬ (0 < x.length ∧ size < ((sumE x + encN c : Nat) : Int)) := fun h => hs h.2
      rw [fitGo_go hn] at hf
      have e : x ++ c :: r = (x ++ [c]) ++ r := by rw [List.append_assoc]; rfl
      rw [cutGo, if_neg hs, e]
      refine cut_go size r (x ++ [c]) (by simp) (by rw [← e]; exact hl) ?_
      rw [← e, hf, List.length_append, sumE_snoc]
      show x.length + (fitGo size (x.length + 1) (sumE x + encN c) r + 1) = x.length + 1 + fitGo size (x.length + 1) (sumE x + encN c) r
      omega
theorem cut_start (size : Int) (c : CT) (r : List CT) (h : (c :: r).length ≤ 1000) : cutL size (c :: r) = cutGo size [c] r :=
  cut_go size r [c] (by simp) h (by
    show fitGo size 0 0 (c :: r) = 1 + fitGo size 1 (encN c) r
    rw [fitGo_go (by omega), Nat.zero_add, Nat.zero_add, Nat.add_comm])

/-- A list of parts of the call's own: the last part alone stands from block M on. -/
structure OutS (W : World) (B M g cap : Nat) (qs : List (List CT)) (x : List CT) (ul : Value) (vs : List Value) : Prop where
  own : W.ownsRow B 22 1 (.slice (some ⟨g, 0, none⟩) (qs.length + 1) cap) (qs.length + 1) (vs ++ [ul])
  len : vs.length = qs.length
  old : ∀ (i : Nat) (y : List CT), qs[i]? = some y → ∃ u, vs[i]? = some u ∧ CRow W B u y ∧ ∀ b, u.ownBlock = some b → b < M
  last : CRow W M ul x
  bm : B ≤ M
  mh : M ≤ W.heap.size
theorem own_below {w w' : World} {B : Nat} {T : TypeId} {v : Value} {n : Nat} {vs : List Value} (h : w.ownsRow B T 1 v n vs) (hb : Below w.heap.size w w') : w'.ownsRow B T 1 v n vs :=
  World.ownsRow.kept h (row := none) ⟨hb.os, hb.tape, hb.output, hb.size, fun k hk _ => hb.block k hk⟩ (by
    rcases h.2 with ⟨rfl, _⟩ | ⟨g, _, _, rfl, _⟩
    · exact .inl rfl
    · exact .inr (by simp [Value.ownBlock]))
theorem OutS.below {W W' : World} {B M g cap : Nat} {qs : List (List CT)} {x : List CT} {ul : Value} {vs : List Value} (h : OutS W B M g cap qs x ul vs) (hb : Below W.heap.size W W') : OutS W' B M g cap qs x ul vs :=
  ⟨own_below h.own hb, h.len, fun i y hy => by
    obtain ⟨u, h1, h2, h3⟩ := h.old i y hy
    exact ⟨u, h1, h2.below hb, h3⟩, h.last.below hb, h.bm, Nat.le_trans h.mh hb.size⟩
theorem OutS.prow {W : World} {B M g cap : Nat} {qs : List (List CT)} {x : List CT} {ul : Value} {vs : List Value} (h : OutS W B M g cap qs x ul vs) : PRow W B (.slice (some ⟨g, 0, none⟩) (qs.length + 1) cap) (qs ++ [x]) := by
  refine ⟨vs ++ [ul], by rw [List.length_append]; exact h.own, fun i y hy => ?_⟩
  have hl := h.len
  by_cases hi : i < qs.length
  · rw [List.getElem?_append_left hi] at hy
    obtain ⟨u, h1, h2, _⟩ := h.old i y hy
    exact ⟨u, by rw [List.getElem?_append_left (by omega)]; exact h1, h2⟩
  · rw [List.getElem?_append_right (by omega)] at hy
    obtain rfl : i = qs.length := by
      rcases Nat.eq_zero_or_pos (i - qs.length) with e | e
      · omega
      · rw [List.getElem?_eq_none (by simp; omega)] at hy; cases hy
    rw [Nat.sub_self] at hy
    obtain rfl : x = y := by simpa using hy
    exact ⟨ul, by rw [List.getElem?_append_right (by omega), hl, Nat.sub_self]; rfl, h.last.le h.bm⟩
theorem OutS.at {W : World} {B M g cap : Nat} {qs : List (List CT)} {x : List CT} {ul : Value} {vs : List Value} (h : OutS W B M g cap qs x ul vs) : W.cell? ⟨g, qs.length, none⟩ = some ul := by
  have h1 := World.ownsRow.cells h.own (g := g) rfl qs.length ul (by rw [List.getElem?_append_right (by have := h.len; omega), h.len, Nat.sub_self]; rfl)
  rwa [add_zero_off, Nat.zero_add] at h1
/-- A part more. -/
theorem outs_new {w w' : World} {B M M' g cap g' cap' : Nat} {qs : List (List CT)} {x y : List CT} {ul u : Value} {vs : List Value} (h : OutS w B M g cap qs x ul vs) (hu : CRow w M' u y) (hM : M' ≤ w.heap.size) (hul : ∀ b, ul.ownBlock = some b → b < M') (hMM : M ≤ M')
    (hr : w'.ownsRow B 22 1 (.slice (some ⟨g', 0, none⟩) (qs.length + 1 + 1) cap') (qs.length + 1 + 1) ((vs ++ [ul]) ++ [u])) (hg : w.grownBy w' (some g)) : OutS w' B M' g' cap' (qs ++ [x]) y u (vs ++ [ul]) := by
  have hl := h.len
  refine ⟨by rw [List.length_append]; exact hr, by rw [List.length_append, List.length_append, hl]; rfl, fun i z hz => ?_, hu.grown hg (part_ne_list (hu.le (Nat.le_trans h.bm hMM)) h.own), Nat.le_trans h.bm hMM, Nat.le_trans hM hg.size⟩
  by_cases hi : i < qs.length
  · rw [List.getElem?_append_left hi] at hz
    obtain ⟨v, h1, h2, h3⟩ := h.old i z hz
    exact ⟨v, by rw [List.getElem?_append_left (by omega)]; exact h1, h2.grown hg (part_ne_list h2 h.own), fun b hb => Nat.lt_of_lt_of_le (h3 b hb) hMM⟩
  · rw [List.getElem?_append_right (by omega)] at hz
    obtain rfl : i = qs.length := by
      rcases Nat.eq_zero_or_pos (i - qs.length) with e | e
      · omega
      · rw [List.getElem?_eq_none (by simp; omega)] at hz; cases hz
    rw [Nat.sub_self] at hz
    obtain rfl : x = z := by simpa using hz
    exact ⟨ul, by rw [List.getElem?_append_right (by omega), hl, Nat.sub_self]; rfl, (h.last.grown hg (part_ne_list (h.last.le h.bm) h.own)).le h.bm, hul⟩
theorem outs_first {w w' : World} {B M' g g' cap' : Nat} {y : List CT} {u : Value} (hu : CRow w M' u y) (hB : B ≤ M') (hM : M' ≤ w.heap.size) (hn : ∀ b, u.ownBlock = some b → b ≠ g)
    (hr : w'.ownsRow B 22 1 (.slice (some ⟨g', 0, none⟩) (0 + 1) cap') (0 + 1) ([] ++ [u])) (hg : w.grownBy w' (some g)) : OutS w' B M' g' cap' [] y u [] := by
  refine ⟨hr, rfl, fun i z hz => by simp at hz, hu.grown hg ?_, hB, Nat.le_trans hM hg.size⟩
  cases e : u.ownBlock with
  | none => exact .inl rfl
  | some b => exact .inr fun q => hn b e (Option.some.inj q)
theorem setCell_grown (w : World) (g j : Nat) (v : Value) : w.grownBy (w.setCell ⟨g, j, none⟩ v) (some g) := by
  have h := Below.setCell (Below.refl g w) (p := ⟨g, j, none⟩) (Nat.le_refl _) v
  have h2 := (But.refl w.heap.size g w).setCell j v
  exact ⟨h.os, h.tape, h.output, h.size, fun k hk hne => h2.block k hk (fun e => hne (by rw [e]))⟩
/-- The last part, greater by what was appended. -/
theorem outs_put {w w' : World} {B M g cap : Nat} {qs : List (List CT)} {x y : List CT} {ul u' : Value} {vs : List Value} (h : OutS w B M g cap qs x ul vs) (hr : CRow w' M u' y) (hg : w.grownBy w' ul.ownBlock) : OutS (w'.setCell ⟨g, qs.length, none⟩ u') B M g cap qs y u' vs := by
  have hl := h.len
  have hne : some g ≠ ul.ownBlock := by
    rcases part_ne_list (h.last.le h.bm) h.own with e | e
    · rw [e]; simp
    · exact fun q => e q.symm
  have ho : w'.ownsRow B 22 1 (.slice (some ⟨g, 0, none⟩) (qs.length + 1) cap) (qs.length + 1) (vs ++ [ul]) := World.ownsRow.kept h.own hg (.inr hne)
  have hset := setCell_grown w' g qs.length u'
  refine ⟨?_, hl, fun i z hz => ?_, hr.grown hset (part_ne_list (hr.le h.bm) ho), h.bm, Nat.le_trans h.mh (Nat.le_trans hg.size hset.size)⟩
  · refine ⟨by simp [hl], ?_⟩
    rcases ho.2 with ⟨e, _⟩ | ⟨g2, cap2, cur, e, hb, hh, hn, hm, hs, ht⟩
    · cases e
    · injection e with e1 e2 e3
      injection e1 with e1
      injection e1 with e1
      subst e1 e3
      have hB : Blk w' g 22 cur := hh
      refine .inr ⟨g, cap, cur.setIfInBounds qs.length u', rfl, hb, hB.set qs.length u', hn, hm, by rw [Array.size_setIfInBounds]; exact hs, ?_⟩
      rw [Array.toList_setIfInBounds, List.take_set, ht, ← hl, List.set_append_right _ _ (Nat.le_refl _), Nat.sub_self]
      rfl
  · obtain ⟨u, h1, h2, h3⟩ := h.old i z hz
    have h4 : u.ownBlock = none ∨ u.ownBlock ≠ ul.ownBlock := by
      cases e : u.ownBlock with
      | none => exact .inl rfl
      | some b =>
        refine .inr fun q => ?_
        have h5 := h3 b e
        have h6 := (World.ownsRow.lt h.last b q.symm).1
        omega
    have h7 := h2.grown hg h4
    exact ⟨u, h1, h7.grown hset (part_ne_list h7 ho), h3⟩

section
variable {ops : Array Oper} {rest : List Oper} {o : Oper} {a : Act} {Q : Exit → Act → World → Prop}
/-- append of one part to a list of the call's own, told what it holds. -/
theorem wpList_append_slc (hgd : o.guard = Option.none) (s x : Operand)
    (ho : o.op = .call { callee := .builtin .append, args := #[s, x], argTypes := #[35, 35] })
    (w : World) (base g cap p : Nat) (vs : List Value) (hs : a.eval s = .slice (some ⟨g, 0, none⟩) p cap) (hown : w.ownsRow base 22 1 (.slice (some ⟨g, 0, none⟩) p cap) p vs)
    (G c : Nat) (u : Value) (hx : a.eval x = .slice (some ⟨G, 0, Option.none⟩) 1 c) (hc : w.cell? ⟨G, 0, Option.none⟩ = some u) (hu : u.oneCell' = true)
    (hlen : p ≤ 1000000) (hbase : base ≤ w.heap.size)
    (h : ∀ g' cap' w', w'.ownsRow base 22 1 (.slice (some ⟨g', 0, none⟩) (p + 1) cap') (p + 1) (vs ++ [u]) → Below base w w' → w.grownBy w' (some g) → wpList Tryz.prog ops Q rest (a.put o.dst (.slice (some ⟨g', 0, none⟩) (p + 1) cap')) w') : wpList Tryz.prog ops Q (o :: rest) a w := by
  obtain ⟨i0, hi, hz0, hz1, hz2⟩ := info_parts info_part
  refine wpList_append_own w hgd s x 35 ho base 22 i0 (.slice Option.none 0 0) 1 24 Tryz.underlying35 hi hz0 hz1 hz2 rfl (by decide) _ p vs hs hown ⟨G, 0, Option.none⟩ 1 c [u] hx rfl ?_ ?_ (by unfold maxLen; omega) (by omega) hbase ?_
  · intro j e he
    match j, he with
    | 0, he => simp at he; subst he; rw [add_zero_off]; exact hc
    | j + 1, he => simp at he
  · intro e he
    have : e = u := by simpa using he
    subst this
    exact hu
  · intro v' w' h1 h2 _
    have h3 := h1
    rcases h1.2 with ⟨_, h0⟩ | ⟨g', cap', cur, rfl, hrest⟩
    · omega
    · exact h g' cap' w' h3 ((Below.refl _ _).grown h2 hbase fun k hk => (World.ownsRow.lt hown k hk).1) h2
end
theorem crow_one {w : World} {B : Nat} {v : Value} {l : List CT} (h : CRow w B v l) : v.oneCell' = true := by
  obtain ⟨A, c, rfl, _⟩ := h.len
  rfl
/-- append of one cell as one step of a region that draws, told which block is turned. -/
theorem step_append_cellg {ops : Array Oper} {o : Oper} {a : Act} {K : Act → World → Prop} {Q : Exit → Act → World → Prop} {E : Prop} (hgd : o.guard = Option.none) (s x : Operand)
    (ho : o.op = .call { callee := .builtin .append, args := #[s, x], argTypes := #[22, 22] })
    (w : World) (base : Nat) (v : Value) (l : List CT) (hs : a.eval s = v) (hown : CRow w base v l)
    (G m : Nat) (hx : a.eval x = .slice (some ⟨G, 0, Option.none⟩) 1 m) (y : CT) (hc : ∀ j u, y.e[j]? = some u → w.cell? ((⟨G, 0, Option.none⟩ : Addr).add j) = some u)
    (hlen : l.length ≤ 100000) (hbase : base ≤ w.heap.size)
    (hK : ∀ v' w', CRow w' base v' (l ++ [y]) → w.grownBy w' v.ownBlock → K (a.put o.dst v') w') :
    if Region.wanted o (yielded ops a.tmps) = true then Oper.wp Tryz.prog o a w K Q else E := by
  have hw : Region.wanted o (yielded ops a.tmps) = true := by simp [Region.wanted, hgd]
  rw [if_pos hw]
  obtain ⟨i0, hi, hz0, hz1, hz2⟩ := info_parts info_cell
  obtain ⟨v', w', hrun, r1, r2, _⟩ := run_append_own (P := Tryz.prog) w base 22 o.type 26 i0 _ 8 96 Tryz.underlying22 hi hz0 hz1 hz2 rfl (by decide) v l.length (flatC l) hown ⟨G, 0, Option.none⟩ 1 m y.e (CT.e_len y) hc y.e_one (by unfold maxLen; omega) (by omega) hbase
  unfold Oper.wp
  simp [execOp, ho, resolve, invoke, builtin, hs, hx, hrun, Result.andThen]
  refine hK v' w' ?_ r2
  unfold CRow
  rw [flatC_app, flatC_one, List.length_append]
  exact r1
end Go.Proofs.YtfcnobcpnhfgmaaGreatDoor

/- The document's Cut of layer 8 at every list of cells. Conditions: the argument stands, a thousand cells at most, their texts are short, their numbers are of 64 bits. -/
namespace Go.Proofs.YtfcnobcpnhfgmaaGreatDoor
open Go.RowKit

/-- The document's Encode: how many bytes there are. -/
theorem dencn_any (c : CT) (h : Dc c) (w : World) :
    Calls Tryz.prog 53 #[c.v] w fun e w' => ∃ A cap b, e = .returned (.tuple #[.slice A (encN c) cap, .bool b]) ∧ Below w.heap.size w w' := by
  obtain ⟨g1, g2, g3, g4, h3⟩ := h
  unfold encN
  cases hok : c.ok with
  | true =>
    refine (refenc_yes c.r c.f c.q c.s c.t c.k c.vk h3 (by omega) (by omega) (by omega) (by omega) w hok).mono fun e w' ⟨v, he, hr, hb⟩ => ?_
    obtain ⟨A, cap, rfl, _⟩ := hr.sla
    exact ⟨A, cap, true, by rw [if_pos rfl]; exact he, hb⟩
  | false =>
    refine (refenc_no c.r c.f c.q c.s c.t c.k c.vk c.vn (by omega) (by omega) w hok).mono fun e w' ⟨he, hb⟩ => ?_
    exact ⟨none, 0, false, by rw [if_neg (by simp)]; exact he, hb⟩
theorem crow_new (W : World) (B : Nat) (hB : B ≤ W.heap.size) (c : CT) : CRow (W.alloc (.cells #[.string c.r, .string c.f, .string c.q, .int .i64 c.t, .int .i64 c.k, .int .i64 c.vk, .int .i64 c.vn, .string c.s] 26)) B (.slice (some ⟨W.heap.size, 0, none⟩) 1 1) [c] := by
  refine ⟨by simp [flatC, CT.e], .inr ⟨W.heap.size, 1, #[.string c.r, .string c.f, .string c.q, .int .i64 c.t, .int .i64 c.k, .int .i64 c.vk, .int .i64 c.vn, .string c.s], rfl, hB, heap_alloc_new W _, Nat.le_refl _, by unfold maxLen; simp, rfl, ?_⟩⟩
  simp [flatC, CT.e]
theorem step_append_cellh {ops : Array Oper} {o : Oper} {a : Act} {K : Act → World → Prop} {Q : Exit → Act → World → Prop} {E : Prop} (hgd : o.guard = Option.none) (s x : Operand)
    (ho : o.op = .call { callee := .builtin .append, args := #[s, x], argTypes := #[22, 22] })
    (w : World) (base : Nat) (v : Value) (l : List CT) (n : Nat) (hn : l.length = n) (hs : a.eval s = v) (hown : CRow w base v l)
    (G m : Nat) (hx : a.eval x = .slice (some ⟨G, 0, Option.none⟩) 1 m) (y : CT) (hc : ∀ j u, y.e[j]? = some u → w.cell? ((⟨G, 0, Option.none⟩ : Addr).add j) = some u)
    (hlen : n ≤ 100000) (hbase : base ≤ w.heap.size)
    (hK : ∀ A' c' w', CRow w' base (.slice A' (n + 1) c') (l ++ [y]) → w.grownBy w' v.ownBlock → K (a.put o.dst (.slice A' (n + 1) c')) w') :
    if Region.wanted o (yielded ops a.tmps) = true then Oper.wp Tryz.prog o a w K Q else E :=
  step_append_cellg hgd s x ho w base v l hs hown G m hx y hc (by omega) hbase fun v' w' hr hg => by
    obtain ⟨A', c', e, _⟩ := hr.len
    rw [List.length_append, hn] at e
    subst e
    exact hK A' c' w' hr hg
/-- Where the loop of the document's Cut is. -/
def CutS (w W : World) (l : List CT) (size : Int) (i nn p g cap : Nat) : Prop :=
  (i = 0 ∧ p = 0 ∧ nn = 0 ∧ W.ownsRow w.heap.size 22 1 (.slice (some ⟨g, 0, none⟩) 0 cap) 0 []) ∨
  (0 < i ∧ ∃ qs x ul vs M, p = qs.length + 1 ∧ OutS W w.heap.size M g cap qs x ul vs ∧ nn = sumE x ∧ 0 < x.length ∧ x.length ≤ i ∧ cutL size l = qs ++ cutGo size x (l.drop i))
theorem cutgo_new {size : Int} {l : List CT} {i : Nat} {qs : List (List CT)} {x : List CT} {c : CT} (h : cutL size l = qs ++ cutGo size x (l.drop i)) (hc : l[i]? = some c) (hs : size < ((sumE x + encN c : Nat) : Int)) : cutL size l = (qs ++ [x]) ++ cutGo size [c] (l.drop (i + 1)) := by
  obtain ⟨hi, e⟩ := List.getElem?_eq_some_iff.1 hc
  rw [h, List.drop_eq_getElem_cons hi, e, cutGo, if_pos hs, List.append_assoc]
  rfl
theorem cutgo_put {size : Int} {l : List CT} {i : Nat} {qs : List (List CT)} {x : List CT} {c : CT} (h : cutL size l = qs ++ cutGo size x (l.drop i)) (hc : l[i]? = some c) (hs : ¬ size < ((sumE x + encN c : Nat) : Int)) : cutL size l = qs ++ cutGo size (x ++ [c]) (l.drop (i + 1)) := by
  obtain ⟨hi, e⟩ := List.getElem?_eq_some_iff.1 hc
  rw [h, List.drop_eq_getElem_cons hi, e, cutGo, if_neg hs]
/-- The list's block, while a part is turned. -/
theorem outs_hold {w w' : World} {B M g cap : Nat} {qs : List (List CT)} {x : List CT} {ul : Value} {vs : List Value} (h : OutS w B M g cap qs x ul vs) (hg : w.grownBy w' ul.ownBlock) : w'.cell? ⟨g, qs.length, none⟩ = some ul ∧ ∀ j, w'.frozen? ⟨g, j, none⟩ = false := by
  have hne : some g ≠ ul.ownBlock := by
    rcases part_ne_list (h.last.le h.bm) h.own with e | e
    · rw [e]; simp
    · exact fun q => e q.symm
  refine ⟨hg.cell h.at hne, fun j => ?_⟩
  have ho : w'.ownsRow B 22 1 (.slice (some ⟨g, 0, none⟩) (qs.length + 1) cap) (qs.length + 1) (vs ++ [ul]) := World.ownsRow.kept h.own hg (.inr hne)
  rcases ho.2 with ⟨e, _⟩ | ⟨g2, cap2, cur, e, hb, hh, _⟩
  · cases e
  · injection e with e1 e2 e3
    injection e1 with e1
    injection e1 with e1
    subst e1
    have hB : Blk w' g 22 cur := hh
    exact hB.free j

set_option maxRecDepth 100000 in
set_option maxHeartbeats 16000000 in
theorem refcut_any (v : Value) (l : List CT) (size : Int) (hl : l.length ≤ 1000) (w : World) (h : ClA w v l) (hs : ∀ c ∈ l, Dc c) :
    Calls Tryz.prog 17 #[v, .int .i64 size] w fun e w' => ∃ v', e = .returned v' ∧ PRow w' w.heap.size v' (cutL size l) ∧ Below w.heap.size w w' := by
  have mixed : Tryz.prog.follows .mixedOrders = true := by kernel_rfl
  obtain ⟨A, cc, rfl, hc1, hc2, hh⟩ := h
  have HH := hid hh
  have HDc := hid hs
  clear hh hs
  obtain ⟨m, hm⟩ : ∃ m, l.length = m := ⟨_, rfl⟩
  have HM := hid hm
  rw [hm] at hc1 hl ⊢
  clear hm
  have hwm1 : IntKind.i64.wrap (-1) = -1 := by rw [IntKind.wrap_i64]; omega
  go_enter Tryz.func17, Tryz.ntmps17
  go_wp2
  have H0 : Hid (CutS w (w.alloc (.cells #[] 22)) l size 0 0 0 w.heap.size 0) := .inl ⟨rfl, rfl, rfl, World.ownsRow_made w #[] 0 (Nat.le_refl _) (by unfold maxLen; omega) rfl⟩
  go_loopw [5, 6, 7] (fun vo vn vi wr => ∃ (i nn p g cap : Nat), i ≤ m ∧ vi = .int .i64 i ∧ vo = .slice (some ⟨g, 0, none⟩) p cap ∧ vn = .int .i64 (nn : Int) ∧ Hid (CutS w wr l size i nn p g cap) ∧ Hid (Below w.heap.size w wr ∧ p ≤ i ∧ nn ≤ i * 6000)) (fun _ _ vi _ => m - (intOf vi).toNat)
  case atStart => exact ⟨0, 0, 0, _, _, Nat.zero_le _, rfl, rfl, rfl, H0.out, below_new w _, by omega, by omega⟩
  case round =>
    clear H0
    obtain ⟨i, nn, p, g, cap, hi, rfl, rfl, rfl, HS, HB⟩ := hrel
    by_cases hlt : i < m
    · have hltz : (i : Int) < (m : Int) := by omega
      have hin : i < l.length := by rw [HM.out]; exact hlt
      obtain ⟨b, off, rfl, hhc⟩ := HH.out (by omega)
      have hbw : b < w.heap.size := hhc.lt (by omega)
      obtain ⟨c, hc⟩ : ∃ c, l[i]? = some c := ⟨_, List.getElem?_eq_getElem hin⟩
      have hdc := HDc.out c (List.mem_of_getElem? hc)
      have HX : Hid (HC w b off l ∧ l[i]? = some c ∧ b < w.heap.size) := ⟨hhc, hc, hbw⟩
      have hq6 := encN_le c (by have := hdc.2.2.2.1; omega) hdc.2.2.2.2
      have HEn : Hid (∀ W, Calls Tryz.prog 53 #[c.v] W fun e w' => ∃ A cap b, e = .returned (.tuple #[.slice A (encN c) cap, .bool b]) ∧ Below W.heap.size W w') := fun W => dencn_any c hdc W
      obtain ⟨a0, a1, a2, a3, a4, a5, a6, a7⟩ := ct_words (hhc.below HB.out.1 hbw) i hc
      obtain ⟨q, hq⟩ : ∃ q, encN c = q := ⟨_, rfl⟩
      have HQ := hid hq
      rw [hq] at hq6 HEn
      clear hhc hc hbw hdc hq hin
      have hpi : p ≤ 1000 := by have := HB.out.2.1; omega
      have hnn : nn ≤ 6000000 := by have := HB.out.2.2; omega
      rcases HS.out with ⟨i0, p0, n0, hrow⟩ | ⟨hi0, qs, x, ul, vs, M, hp, ho, hx, hx0, hxi, hcut⟩
      · subst p0 n0
        have HI0 := hid i0
        have HRow := hid hrow
        clear hrow HS i0
        go_upto_region 9 with (go_at_call 53; refine (HEn.out _).mono ?_; rintro e w5 ⟨A5, c5, b5, rfl, hb5⟩; have HB5 := hid (HB.out.1.trans (hb5.mono HB.out.1.size)); have HR5 := hid (own_below HRow.out hb5); clear hb5)
        clear a0 a1 a2 a3 a4 a5 a6 a7
        obtain ⟨a0, a1, a2, a3, a4, a5, a6, a7⟩ := ct_words (HX.out.1.below HB5.out HX.out.2.2) i HX.out.2.1
        have HP1 := hid (crow_new w5 w5.heap.size (Nat.le_refl _) c)
        have HBn := hid (below_new w5 (.cells #[.string c.r, .string c.f, .string c.q, .int .i64 c.t, .int .i64 c.k, .int .i64 c.vk, .int .i64 c.vn, .string c.s] 26))
        go_wp2_with (at_builtin; refine wpList_append_slc rfl (.tmp 47) (.tmp 53) rfl _ w.heap.size g cap 0 [] rfl ((HR5.out.alloc _).alloc _) (w5.heap.size + 1) 1 (.slice (some ⟨w5.heap.size, 0, none⟩) 1 1) ?_ ?_ rfl (by omega) (by have := HB5.out.size; simp; omega) ?_; rfl; simp; intro g' cap' w7 hr7 hb7 hg7; have HN7 := hid (outs_first (HP1.out.below (below_new _ _)) HB5.out.size (by simp; omega) (fun b hb => by have h1 := (World.ownsRow.lt HR5.out g rfl).2; have h2 : b = w5.heap.size := (Option.some.inj hb).symm; omega) hr7 hg7); have HB7 := hid (HB5.out.trans (((HBn.out.trans ((below_new _ _).mono (by simp))).mono HB5.out.size).trans hb7)); clear hr7 hb7 hg7)
        go_roundw
        case rel =>
          refine ⟨i + 1, q, 0 + 1, _, _, by omega, by go_num, rfl, rfl, .inr ⟨Nat.succ_pos _, [], [c], _, _, _, rfl, HN7.out, ?_, by simp, by simp, ?_⟩, HB7.out, by omega, by omega⟩
          · show q = encN c + 0
            rw [HQ.out]; rfl
          · have hi0 : i = 0 := HI0.out
            subst hi0
            have hc := HX.out.2.1
            cases l with
            | nil => cases hc
            | cons y r =>
              obtain rfl : y = c := by simpa using hc
              rw [List.nil_append]
              exact cut_start size y r (by rw [HM.out]; omega)
        case measure => simp [intOf]; omega
      · obtain ⟨P, hP⟩ : ∃ P, qs.length = P := ⟨_, rfl⟩
        rw [hP] at hp
        subst hp
        have HPq := hid hP
        have HO := hid ho
        have HXs : Hid (nn = sumE x ∧ 0 < x.length ∧ x.length ≤ i) := ⟨hx, hx0, hxi⟩
        have HCt := hid hcut
        clear hP ho hx hx0 hcut HS
        have hwj : IntKind.i64.wrap (P : Int) = (P : Int) := by rw [IntKind.wrap_i64]; omega
        have hwj1 : IntKind.i64.wrap ((P : Int) + 1 - 1) = (P : Int) := by rw [IntKind.wrap_i64]; omega
        have hP0 : ¬ (P : Int) < 0 := by omega
        have hjm : (P : Int) < (P : Int) + 1 := by omega
        obtain ⟨Au, cu, eu, _⟩ := HO.out.last.len
        obtain ⟨xl, hxl⟩ : ∃ xl, x.length = xl := ⟨_, rfl⟩
        rw [hxl] at eu hxi
        have HXl := hid hxl
        clear hxl
        subst eu
        have hx1000 : ¬ (1000 : Int) ≤ (xl : Int) := by omega
        by_cases hbig : size < (nn : Int) + (q : Int)
        · go_upto_region 9 with (go_at_call 53; refine (HEn.out _).mono ?_; rintro e w5 ⟨A5, c5, b5, rfl, hb5⟩; have HB5 := hid (HB.out.1.trans (hb5.mono HB.out.1.size)); have HO5 := hid (HO.out.below hb5); clear hb5)
          clear a0 a1 a2 a3 a4 a5 a6 a7
          obtain ⟨a0, a1, a2, a3, a4, a5, a6, a7⟩ := ct_words (HX.out.1.below HB5.out HX.out.2.2) i HX.out.2.1
          have HP1 := hid (crow_new w5 w5.heap.size (Nat.le_refl _) c)
          have HBn := hid (below_new w5 (.cells #[.string c.r, .string c.f, .string c.q, .int .i64 c.t, .int .i64 c.k, .int .i64 c.vk, .int .i64 c.vn, .string c.s] 26))
          have HOw : Hid (w5.ownsRow w.heap.size 22 1 (.slice (some ⟨g, 0, none⟩) (P + 1) cap) (P + 1) (vs ++ [.slice Au xl cu])) := by have := HO5.out.own; rw [HPq.out] at this; exact this
          have HBg : Hid (size < ((sumE x + encN c : Nat) : Int)) := by show size < _; rw [← HXs.out.1, HQ.out]; omega
          clear hbig
          go_wp2_with (at_builtin; refine wpList_append_slc rfl (.tmp 47) (.tmp 53) rfl _ w.heap.size g cap (P + 1) (vs ++ [.slice Au xl cu]) rfl ((HOw.out.alloc _).alloc _) (w5.heap.size + 1) 1 (.slice (some ⟨w5.heap.size, 0, none⟩) 1 1) ?_ ?_ rfl (by omega) (by have := HB5.out.size; simp; omega) ?_; rfl; simp; intro g' cap' w7 hr7 hb7 hg7; have HN7 := hid (outs_new ((HO5.out.below (below_new _ _)).below (below_new _ _)) (HP1.out.below (below_new _ _)) (by simp; omega) (fun b hb => (World.ownsRow.lt HO5.out.last b hb).2) HO5.out.mh (by rw [HPq.out]; exact hr7) hg7); have HB7 := hid (HB5.out.trans (((HBn.out.trans ((below_new _ _).mono (by simp))).mono HB5.out.size).trans hb7)); clear hr7 hb7 hg7)
          go_roundw
          case rel =>
            refine ⟨i + 1, q, P + 1 + 1, _, _, by omega, by go_num, rfl, rfl, .inr ⟨Nat.succ_pos _, qs ++ [x], [c], _, _, _, by rw [List.length_append, HPq.out]; rfl, HN7.out, ?_, by simp, by simp, cutgo_new HCt.out HX.out.2.1 HBg.out⟩, HB7.out, by have := HB.out.2.1; omega, by omega⟩
            show q = encN c + 0
            rw [HQ.out]; rfl
          case measure => simp [intOf]; omega
        · go_upto_region 8 with (go_at_call 53; refine (HEn.out _).mono ?_; rintro e w5 ⟨A5, c5, b5, rfl, hb5⟩; have HB5 := hid (HB.out.1.trans (hb5.mono HB.out.1.size)); have HO5 := hid (HO.out.below hb5); clear hb5)
          have g5 : w5.cell? ⟨g, P, none⟩ = some (.slice Au xl cu) := by have := HO5.out.at; rw [HPq.out] at this; exact this
          go_upto_region 11 with (fail)
          have hBs : ¬ size < ((sumE x + encN c : Nat) : Int) := by rw [← HXs.out.1, HQ.out]; omega
          have HBs := hid hBs
          clear a0 a1 a2 a3 a4 a5 a6 a7 g5 hBs hbig
          have HBd : Hid (Below w5.heap.size w5 w5.drew) := (Below.refl _ w5).drew
          have HOd := hid (HO5.out.below HBd.out)
          have HAn := hid (below_new w5.drew (.cells #[.string c.r, .string c.f, .string c.q, .int .i64 c.t, .int .i64 c.k, .int .i64 c.vk, .int .i64 c.vn, .string c.s] 26))
          have HOa := hid (HOd.out.below HAn.out)
          have HCn : Hid (DW (w5.drew.alloc (.cells #[.string c.r, .string c.f, .string c.q, .int .i64 c.t, .int .i64 c.k, .int .i64 c.vk, .int .i64 c.vn, .string c.s] 26)) w5.drew.heap.size c) := Blk.new w5.drew 26 c.e.toArray
          have HAm := hid (below_new w5 (.cells #[.string c.r, .string c.f, .string c.q, .int .i64 c.t, .int .i64 c.k, .int .i64 c.vk, .int .i64 c.vn, .string c.s] 26))
          have HOm := hid (HO5.out.below HAm.out)
          have HOb := hid (HOm.out.below (Below.refl _ (w5.alloc (.cells #[.string c.r, .string c.f, .string c.q, .int .i64 c.t, .int .i64 c.k, .int .i64 c.vk, .int .i64 c.vn, .string c.s] 26))).drew)
          have HCm : Hid (DW (w5.alloc (.cells #[.string c.r, .string c.f, .string c.q, .int .i64 c.t, .int .i64 c.k, .int .i64 c.vk, .int .i64 c.vn, .string c.s] 26)).drew w5.heap.size c) := DW.below (Blk.new w5 26 c.e.toArray) (Below.refl _ (w5.alloc (.cells #[.string c.r, .string c.f, .string c.q, .int .i64 c.t, .int .i64 c.k, .int .i64 c.vk, .int .i64 c.vn, .string c.s] 26))).drew
          have g5 : w5.cell? ⟨g, P, none⟩ = some (.slice Au xl cu) := by have := HO5.out.at; rw [HPq.out] at this; exact this
          have g6 : (w5.alloc (.cells #[.string c.r, .string c.f, .string c.q, .int .i64 c.t, .int .i64 c.k, .int .i64 c.vk, .int .i64 c.vn, .string c.s] 26)).cell? ⟨g, P, none⟩ = some (.slice Au xl cu) := by have := HOm.out.at; rw [HPq.out] at this; exact this
          have g7 : (w5.drew.alloc (.cells #[.string c.r, .string c.f, .string c.q, .int .i64 c.t, .int .i64 c.k, .int .i64 c.vk, .int .i64 c.vn, .string c.s] 26)).cell? ⟨g, P, none⟩ = some (.slice Au xl cu) := by have := HOa.out.at; rw [HPq.out] at this; exact this
          have g8 : w5.drew.cell? ⟨g, P, none⟩ = some (.slice Au xl cu) := by have := HOd.out.at; rw [HPq.out] at this; exact this
          obtain ⟨a0, a1, a2, a3, a4, a5, a6, a7⟩ := ct_words (HX.out.1.below HB5.out HX.out.2.2) i HX.out.2.1
          obtain ⟨d0, d1, d2, d3, d4, d5, d6, d7⟩ := ct_words ((HX.out.1.below HB5.out HX.out.2.2).below HBd.out (Nat.lt_of_lt_of_le HX.out.2.2 HB5.out.size)) i HX.out.2.1
          go_region_law (refine step_append_cellh rfl (.tmp 62) (.tmp 67) rfl _ M (.slice Au xl cu) x xl HXl.out rfl ?_ _ 1 rfl c ?_ (by omega) ?_ ?_; (first | exact HOa.out.last | exact HOb.out.last); (first | exact ct_dw HCn.out | exact ct_dw HCm.out); (first | exact HOa.out.mh | exact HOb.out.mh); intro A7 c7 w7 hr7 hg7; have HR7 := hid hr7; have HG7 : Hid (OutS (w7.setCell ⟨g, qs.length, none⟩ (.slice A7 (xl + 1) c7)) w.heap.size M g cap qs (x ++ [c]) (.slice A7 (xl + 1) c7) vs ∧ w7.cell? ⟨g, qs.length, none⟩ = some (.slice Au xl cu) ∧ (∀ j, w7.frozen? ⟨g, j, none⟩ = false) ∧ Below w.heap.size w w7) := (by first | exact ⟨outs_put HOa.out hr7 hg7, (outs_hold HOa.out hg7).1, (outs_hold HOa.out hg7).2, (HB5.out.trans ((HBd.out.trans HAn.out).mono HB5.out.size)).grown hg7 (Nat.le_trans HB5.out.size (HBd.out.trans HAn.out).size) (fun b hb => Nat.le_trans HOa.out.bm (World.ownsRow.lt HOa.out.last b hb).1)⟩ | exact ⟨outs_put HOb.out hr7 hg7, (outs_hold HOb.out hg7).1, (outs_hold HOb.out hg7).2, (HB5.out.trans ((HAm.out.trans (Below.refl _ _).drew).mono HB5.out.size)).grown hg7 (Nat.le_trans HB5.out.size HAm.out.size) (fun b hb => Nat.le_trans HOb.out.bm (World.ownsRow.lt HOb.out.last b hb).1)⟩); have z7 : w7.cell? ⟨g, P, none⟩ = some (.slice Au xl cu) := (by have := HG7.out.2.1; rw [HPq.out] at this; exact this); have zf : w7.frozen? ⟨g, P, none⟩ = false := HG7.out.2.2.1 P; clear hr7 hg7)
          all_goals (
            obtain ⟨W8, hW8⟩ : ∃ W8, w7.setCell ⟨g, P, none⟩ (.slice A7 (xl + 1) c7) = W8 := ⟨_, rfl⟩
            have HN8 : Hid (OutS W8 w.heap.size M g cap qs (x ++ [c]) (.slice A7 (xl + 1) c7) vs ∧ Below w.heap.size w W8) := by
              have h1 := HG7.out.1
              rw [HPq.out, hW8] at h1
              rw [← hW8]
              exact ⟨by rw [hW8]; exact h1, Below.setCell HG7.out.2.2.2 (World.ownsRow.lt HO5.out.own g rfl).1 _⟩
            rw [hW8]
            clear hW8 HG7 HR7 z7 zf g5 g6 g7 g8 a0 a1 a2 a3 a4 a5 a6 a7 d0 d1 d2 d3 d4 d5 d6 d7 HOa HOb HOm HOd HCn HCm HAn HAm HBd
            go_wp2
            go_roundw
            case rel =>
              refine ⟨i + 1, nn + q, P + 1, _, _, by omega, by go_num, rfl, by go_num, .inr ⟨Nat.succ_pos _, qs, x ++ [c], _, _, _, by rw [HPq.out], HN8.out.1, ?_, by simp, by rw [List.length_append, HXl.out]; simp; omega, cutgo_put HCt.out HX.out.2.1 HBs.out⟩, HN8.out.2, by have := HB.out.2.1; omega, by have := HB.out.2.2; omega⟩
              rw [sumE_snoc, HQ.out, ← HXs.out.1]
            case measure => simp [intOf]; omega)
    · obtain rfl : i = m := by omega
      go_wp2
      go_ret
      refine ⟨_, rfl, ?_, HB.out.1⟩
      rcases HS.out with ⟨i0, p0, n0, hrow⟩ | ⟨hi0, qs, x, ul, vs, M, hp, ho, hx, hx0, hxi, hcut⟩
      · have e : l = [] := List.eq_nil_of_length_eq_zero (by rw [HM.out]; exact i0)
        rw [e, cutL_nil]
        subst p0
        exact ⟨[], hrow, fun i x h => by simp at h⟩
      · rw [hcut, List.drop_of_length_le (by rw [HM.out]; exact Nat.le_refl _)]
        subst hp
        exact ho.prow
end Go.Proofs.YtfcnobcpnhfgmaaGreatDoor
