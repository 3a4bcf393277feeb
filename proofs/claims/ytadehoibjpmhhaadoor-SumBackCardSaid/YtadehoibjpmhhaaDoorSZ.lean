/- The law SumBack at any list and cut: true, and what lay is as it was. Conditions: the list holds its rows, each at most 2^47 bytes long; the int is one of 64 bits. -/
import Derived.Test.YtadehoibjpmhhaaDoorSY
namespace Go.Proofs.YtadehoibjpmhhaaDoor
open Go.RowKit

/-- Where the first j frames end. -/
def en (ls : List (List UInt8)) (j : Nat) : Nat := (framesM (ls.take j)).length
theorem en_zero (ls : List (List UInt8)) : en ls 0 = 0 := by simp [en, framesM]
theorem en_succ (ls : List (List UInt8)) (k : Nat) (h : k < ls.length) : en ls (k + 1) = en ls k + (frameM ls[k]).length := by unfold en; rw [frames_take ls k h, List.length_append]
theorem en_all (ls : List (List UInt8)) (k : Nat) (h : ls.length ≤ k) : en ls k = (framesM ls).length := by unfold en; rw [List.take_of_length_le h]
theorem cut_frames (ls : List (List UInt8)) (hx : ∀ x ∈ ls, x.length ≤ 65536) (k t : Nat) (hk : k ≤ ls.length) (ht : t ≤ (framesM ls).length) (h1 : en ls k ≤ t) (h2 : k = ls.length ∨ t < en ls (k + 1)) :
    allF ((framesM ls).take t) = (ls.take k, en ls k, if en ls k = t then 0 else 1) := by
  by_cases hkn : k < ls.length
  · have h3 : t < en ls (k + 1) := by omega
    rw [en_succ ls k hkn] at h3
    have e : (framesM ls).take t = framesM (ls.take k) ++ (frameM ls[k]).take (t - en ls k) := by
      have e1 : framesM ls = framesM (ls.take k) ++ (frameM ls[k] ++ framesM (ls.drop (k + 1))) := by
        rw [← List.append_assoc, ← frames_take ls k hkn, ← frames_app, List.take_append_drop]
      have e2 : (framesM (ls.take k)).length = en ls k := rfl
      rw [e1, List.take_append, List.take_of_length_le (by omega), e2, List.take_append_of_le_length (by omega)]
    rw [e, allF_cut (ls.take k) (fun x h => hx x (List.mem_of_mem_take h)) ls[k] (hx _ (List.getElem_mem hkn)) (t - en ls k) (by omega)]
    unfold en at *
    congr 2
    by_cases hz : t - (framesM (ls.take k)).length = 0
    · rw [if_pos hz, if_pos (by omega)]
    · rw [if_neg hz, if_neg (by omega)]
  · have hke : k = ls.length := by omega
    have h3 := en_all ls k (by omega)
    have hte : t = (framesM ls).length := by omega
    rw [hte, List.take_length]
    have := allF_frames ls hx []
    rw [List.append_nil, allF_nil, List.append_nil, Nat.add_zero] at this
    rw [this, hke, List.take_length, en_all ls _ (Nat.le_refl _), if_pos rfl]

theorem info_int : (Tryd.prog.info? 3).map (fun i => (i.zero, i.size, i.bytes)) = some (some (.int .i64 0), 1, 8) := by kernel_rfl
/-- The slice v is the call's own and holds the ints zs. -/
def IRow (w : World) (B : Nat) (v : Value) (zs : List Int) : Prop := w.ownsRow B 3 1 v zs.length (zs.map (Value.int .i64))
theorem own_below {w w' : World} {B : Nat} {e : TypeId} {v : Value} {n : Nat} {xs : List Value} (ho : w.ownsRow B e 1 v n xs) (hb : Below w.heap.size w w') : w'.ownsRow B e 1 v n xs := by
  refine ⟨ho.1, ?_⟩
  rcases ho.2 with h2 | ⟨g, cap, cur, rfl, hB, hh, hrest⟩
  · exact .inl h2
  · refine .inr ⟨g, cap, cur, rfl, hB, ?_, hrest⟩
    rw [hb.block g (by rcases Nat.lt_or_ge g w.heap.size with h' | h'
                       · exact h'
                       · rw [Array.getElem?_eq_none h'] at hh; cases hh)]
    exact hh
/-- Rows of unlike types don't lie in one block. -/
theorem own_ne {w : World} {B : Nat} {e e' : TypeId} (hne : e ≠ e') {u v : Value} {n n' : Nat} {xs ys : List Value} (h : w.ownsRow B e 1 u n xs) (ho : w.ownsRow B e' 1 v n' ys) : u.ownBlock = Option.none ∨ u.ownBlock ≠ v.ownBlock := by
  rcases h.2 with ⟨rfl, _⟩ | ⟨g, cap, cur, rfl, _, hh, _⟩
  · exact .inl rfl
  · refine .inr fun e => ?_
    rcases ho.2 with ⟨rfl, _⟩ | ⟨g', cap', cur', rfl, _, hh', _⟩
    · cases e
    · simp only [Value.ownBlock, Option.some.injEq] at e
      rw [← e, hh] at hh'
      simp only [Option.some.injEq, Obj.cells.injEq] at hh'
      exact hne hh'.2.1
theorem IRow.cells {w : World} {B : Nat} {v : Value} {zs : List Int} (h : IRow w B v zs) (h0 : 0 < zs.length) : ∃ g c, v = .slice (some ⟨g, 0, Option.none⟩) zs.length c ∧ ∀ i (hi : i < zs.length), w.cell? ⟨g, i, Option.none⟩ = some (.int .i64 zs[i]) := by
  rcases h.2 with ⟨_, hz⟩ | ⟨g, cap, cur, e2, _, hh, _, _, _, ht⟩
  · omega
  · refine ⟨g, cap, e2, fun i hi => ?_⟩
    rw [cell_of_row w g i cur _ (0, 0) hh]
    have h2 : (cur.toList.take (zs.length * 1))[i]? = (zs.map (Value.int .i64))[i]? := by rw [ht]
    rw [List.getElem?_take_of_lt (by omega), List.getElem?_map, List.getElem?_eq_getElem hi] at h2
    rw [← Array.getElem?_toList, h2]
    rfl

section
variable {ops : Array Oper} {rest : List Oper} {o : Oper} {a : Act} {Q : Exit → Act → World → Prop}
theorem wpList_append_int (hgd : o.guard = Option.none) (s x : Operand)
    (ho : o.op = .call { callee := .builtin .append, args := #[s, x], argTypes := #[59, 59] })
    (w : World) (base : Nat) (v : Value) (zs : List Int) (hs : a.eval s = v) (hown : IRow w base v zs)
    (G : Nat) (c : Nat) (z : Int) (hx : a.eval x = .slice (some ⟨G, 0, Option.none⟩) 1 c) (hc : w.cell? ⟨G, 0, Option.none⟩ = some (.int .i64 z))
    (hlen : zs.length ≤ 1000000) (hbase : base ≤ w.heap.size)
    (h : ∀ v' w', IRow w' base v' (zs ++ [z]) → Below base w w' → w.grownBy w' v.ownBlock → wpList Tryd.prog ops Q rest (a.put o.dst v') w') : wpList Tryd.prog ops Q (o :: rest) a w := by
  obtain ⟨i0, hi, hz0, hz1, hz2⟩ := info_parts info_int
  refine wpList_append_own w hgd s x 59 ho base 3 i0 (.int .i64 0) 1 8 Tryd.underlying59 hi hz0 hz1 hz2 rfl (by decide) v zs.length (zs.map (Value.int .i64)) hs hown ⟨G, 0, Option.none⟩ 1 c [.int .i64 z] hx rfl ?_ ?_ (by unfold maxLen; omega) (by omega) hbase ?_
  · intro j e he
    match j, he with
    | 0, he => simp at he; subst he; rw [add_zero_off]; exact hc
    | j + 1, he => simp at he
  · intro e he
    have : e = .int .i64 z := by simpa using he
    subst this; rfl
  · intro v' w' h1 h2 _
    refine h v' w' ?_ ((Below.refl _ _).grown h2 hbase fun k hk => (World.ownsRow.lt hown k hk).1) h2
    unfold IRow
    rw [List.length_append, List.map_append]
    exact h1
theorem wpList_append_any2 (hgd : o.guard = Option.none) (s x : Operand)
    (ho : o.op = .call { callee := .builtin .append, args := #[s, x], argTypes := #[29, 29] })
    (w : World) (base : Nat) (v : Value) (l : List UInt8) (hs : a.eval s = v) (hown : Row w base v l)
    (ad : Addr) (c : Nat) (news : List UInt8) (hx : a.eval x = .slice (some ad) news.length c) (hnews : HoldsA w (some ad) news)
    (hlen : l.length + news.length ≤ 1000000) (hbase : base ≤ w.heap.size)
    (h : ∀ v' w', Row w' base v' (l ++ news) → Below base w w' → w.grownBy w' v.ownBlock → wpList Tryd.prog ops Q rest (a.put o.dst v') w') : wpList Tryd.prog ops Q (o :: rest) a w := by
  obtain ⟨i0, hi, hz0, hz1, hz2⟩ := info_parts info_u8
  refine wpList_append_own w hgd s x 29 ho base 5 i0 (.int .u8 0) 1 1 Tryd.underlying29 hi hz0 hz1 hz2 rfl (by decide) v l.length (bc l) hs hown ad news.length c (bc news) hx (by rw [bc_len]; omega) (fun j u hu => ?_) (bc_one _) (by unfold maxLen; omega) (by omega) hbase ?_
  · have hj : j < news.length := by
      rcases Nat.lt_or_ge j news.length with h1 | h1
      · exact h1
      · rw [bc_at, List.getElem?_eq_none h1] at hu; cases hu
    obtain ⟨b, off, e, hh⟩ := hnews (by omega)
    cases e
    rw [add_zero_off, hh j hj, ← hu, bc_at, List.getElem?_eq_getElem hj, List.getD_eq_getElem?_getD, List.getElem?_eq_getElem hj]
    rfl
  · intro v' w' h1 h2 _
    refine h v' w' ?_ ((Below.refl _ _).grown h2 hbase fun k hk => (World.ownsRow.lt hown k hk).1) h2
    unfold Row
    rw [bc_app, List.length_append]
    exact h1
end
theorem sla_take {w : World} {A : Option Addr} {n c : Nat} {l : List UInt8} (h : SlA w (.slice A n c) l) (hn : l.length = n) (t : Nat) (ht : t ≤ n) : SlA w (.slice A t c) (l.take t) := by
  obtain ⟨A', c', e, h2, h3, h4, h5⟩ := h
  injection e with e1 _ e2
  subst e1; subst e2
  have hl : (l.take t).length = t := by rw [List.length_take]; omega
  refine ⟨A, c, by rw [hl], by rw [hl]; omega, h3, fun h0 => ?_, h5⟩
  rw [hl] at h0
  obtain ⟨b, off, e, hh⟩ := h4 (by omega)
  refine ⟨b, off, e, fun i hi => ?_⟩
  rw [hl] at hi
  rw [hh i (by omega)]
  simp only [List.getD_eq_getElem?_getD, List.getElem?_take_of_lt hi]
def enZ (ls : List (List UInt8)) (k : Nat) : List Int := (List.range (k + 1)).map fun j => ((en ls j : Nat) : Int)
theorem enZ_len (ls : List (List UInt8)) (k : Nat) : (enZ ls k).length = k + 1 := by simp [enZ]
theorem enZ_succ (ls : List (List UInt8)) (k : Nat) : enZ ls (k + 1) = enZ ls k ++ [((en ls (k + 1) : Nat) : Int)] := by
  unfold enZ; rw [List.range_succ, List.map_append]; rfl
theorem enZ_at (ls : List (List UInt8)) (k i : Nat) (h : i < (enZ ls k).length) : (enZ ls k)[i] = ((en ls i : Nat) : Int) := by simp [enZ]
end Go.Proofs.YtadehoibjpmhhaaDoor
