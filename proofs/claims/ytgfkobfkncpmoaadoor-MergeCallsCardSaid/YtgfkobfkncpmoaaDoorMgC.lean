/- A merger's row by its block; two runs change places. Conditions: the merger stands. -/
import Derived.Test.YtgfkobfkncpmoaaDoorMgB
namespace Go.Proofs.YtgfkobfkncpmoaaDoor
open Go.RowKit

/-- All but one block stand as they stood. -/
structure Chx (g : Nat) (w w' : World) : Prop where
  os : w'.os = w.os
  tape : w'.tape = w.tape
  output : w'.output = w.output
  size : w.heap.size ≤ w'.heap.size
  block : ∀ k, k < w.heap.size → k ≠ g → w'.heap[k]? = w.heap[k]?
theorem Chx.refl (g : Nat) (w : World) : Chx g w w := ⟨rfl, rfl, rfl, Nat.le_refl _, fun _ _ _ => rfl⟩
theorem Chx.of {g : Nat} {w w' : World} (h : Below w.heap.size w w') : Chx g w w' := ⟨h.os, h.tape, h.output, h.size, fun k hk _ => h.block k hk⟩
theorem Chx.trans {g : Nat} {w w1 w2 : World} (h : Chx g w w1) (h2 : Chx g w1 w2) : Chx g w w2 :=
  ⟨h2.os.trans h.os, h2.tape.trans h.tape, h2.output.trans h.output, Nat.le_trans h.size h2.size, fun k hk hn => (h2.block k (by have := h.size; omega) hn).trans (h.block k hk hn)⟩
theorem Chx.set (w : World) (g o : Nat) (v : Value) : Chx g w (w.setCell ⟨g, o, none⟩ v) :=
  ⟨rfl, rfl, rfl, by simp [World.setCell], fun k _ q => Below.heap_setCell _ _ _ _ fun e => q e⟩
/-- The row of a merger's runs, by its block. -/
def RowX (w : World) (g cap : Nat) (l : List Mx) : Prop := ∃ cur : Array Value, Blk w g 145 cur ∧ cur.size = cap * 2 ∧ l.length ≤ cap ∧ cap ≤ maxLen ∧ cur.toList.take (l.length * 2) = flatX l
theorem RowX.row {w : World} {B g cap : Nat} {l : List Mx} (h : RowX w g cap l) (hB : B ≤ g) : XRow w B (.slice (some ⟨g, 0, none⟩) l.length cap) l := by
  obtain ⟨cur, hb, q3, q1, q2, q4⟩ := h
  exact ⟨flatX_len l, .inr ⟨g, cap, cur, rfl, hB, hb, q1, q2, q3, q4⟩⟩
theorem xrow_rowX {w : World} {B n c : Nat} {A : Option Addr} {l : List Mx} (h : XRow w B (.slice A n c) l) (h0 : 0 < l.length) : ∃ g, A = some ⟨g, 0, none⟩ ∧ RowX w g c l ∧ B ≤ g ∧ n = l.length := by
  rcases h.2 with ⟨_, e⟩ | ⟨g, cap, cur, e, hB, hb, q1, q2, q3, q4⟩
  · omega
  · cases e
    exact ⟨g, rfl, ⟨cur, hb, q3, q1, q2, q4⟩, hB, rfl⟩
theorem RowX.keep {w w' : World} {g cap : Nat} {l : List Mx} (h : RowX w g cap l) (hb : Below w.heap.size w w') : RowX w' g cap l := by
  obtain ⟨cur, h1, h2⟩ := h
  exact ⟨cur, h1.keep hb h1.lt, h2⟩
theorem RowX.words {w : World} {g cap : Nat} {l : List Mx} (h : RowX w g cap l) (i : Nat) (hi : i < l.length) : w.cell? ⟨g, i * 2, none⟩ = some l[i].u ∧ w.cell? ⟨g, i * 2 + 1, none⟩ = some (.int .i64 (l[i].r.i : Int)) := by
  have := xrow_at (h.row (Nat.zero_le _)) hi
  obtain ⟨g', e, _, _, h1, h2, _⟩ := this
  injection e with e
  injection e with e
  subst e
  exact ⟨h1, h2⟩
theorem RowX.free {w : World} {g cap : Nat} {l : List Mx} (h : RowX w g cap l) (o : Nat) : w.frozen? ⟨g, o, none⟩ = false := by
  obtain ⟨cur, hb, _⟩ := h
  exact hb.free o
def set2 (w : World) (g p : Nat) (x : Mx) : World := (w.setCell ⟨g, p, none⟩ x.u).setCell ⟨g, p + 1, none⟩ (.int .i64 (x.r.i : Int))
theorem Chx.set2 (w : World) (g p : Nat) (x : Mx) : Chx g w (set2 w g p x) := (Chx.set w g p _).trans (Chx.set _ g (p + 1) _)
theorem RowX.set {w : World} {g cap : Nat} {l : List Mx} (h : RowX w g cap l) (i : Nat) (hi : i < l.length) (x : Mx) : RowX (set2 w g (i * 2) x) g cap (l.set i x) := by
  obtain ⟨cur, hb, q3, q1, q2, q4⟩ := h
  refine ⟨(cur.setIfInBounds (i * 2) x.u).setIfInBounds (i * 2 + 1) (.int .i64 (x.r.i : Int)), (hb.set (i * 2) _).set (i * 2 + 1) _, by rw [Array.size_setIfInBounds, Array.size_setIfInBounds]; exact q3, by rw [List.length_set]; exact q1, q2, ?_⟩
  rw [List.length_set]
  apply List.ext_getElem?
  intro t
  by_cases ht : t < l.length * 2
  · rw [List.getElem?_take_of_lt ht, Array.getElem?_toList]
    have e : t = t / 2 * 2 + t % 2 := by omega
    have hl : t / 2 < (l.set i x).length := by rw [List.length_set]; omega
    have h1 : (flatX (l.set i x))[t]? = (encX (l.set i x)[t / 2])[t % 2]? := by
      conv => lhs; rw [e]
      exact flatX_at _ _ _ hl (by omega)
    have h3 : (flatX l)[t]? = (encX l[t / 2])[t % 2]? := by
      conv => lhs; rw [e]
      exact flatX_at _ _ _ (by omega) (by omega)
    rw [h1, List.getElem_set]
    by_cases ei : i = t / 2
    · rw [if_pos ei]
      rcases Nat.lt_or_ge (t % 2) 1 with q | q
      · have e0 : t % 2 = 0 := by omega
        have e1 : i * 2 = t := by omega
        rw [e0, e1, Array.getElem?_setIfInBounds_ne (by omega), Array.getElem?_setIfInBounds_self, if_pos (by omega)]
        rfl
      · have e0 : t % 2 = 1 := by omega
        have e1 : i * 2 + 1 = t := by omega
        rw [e0, e1, Array.getElem?_setIfInBounds_self, if_pos (by rw [Array.size_setIfInBounds]; omega)]
        rfl
    · rw [if_neg ei, ← h3, ← q4, List.getElem?_take_of_lt ht, Array.getElem?_toList, Array.getElem?_setIfInBounds_ne (by omega), Array.getElem?_setIfInBounds_ne (by omega)]
  · rw [List.getElem?_take_eq_none (by omega), List.getElem?_eq_none (by rw [flatX_len, List.length_set]; omega)]
/-- A merger whose row has a block. -/
structure MAg (w : World) (B mb g cap C : Nat) (l : List Mx) (n : Nat) : Prop where
  lo : B ≤ mb
  lg : B ≤ g
  ne : g ≠ mb
  blk : Blk w mb 143 #[.slice (some ⟨g, 0, none⟩) l.length cap, .int .i64 (n : Int)]
  row : RowX w g cap l
  cl : ∀ x ∈ l, ClA w x.u x.r.cs
  ap : ∀ x ∈ l, ∀ b, x.u.ownBlock = some b → b ≠ mb ∧ b ≠ g ∧ b < C
theorem MAg.at {w : World} {B mb g cap C n : Nat} {l : List Mx} (h : MAg w B mb g cap C l n) : MAt w B mb (.slice (some ⟨g, 0, none⟩) l.length cap) l n :=
  ⟨h.lo, h.blk, h.row.row h.lg, h.cl, fun x hx b hb => ⟨(h.ap x hx b hb).1, fun e => (h.ap x hx b hb).2.1 (by injection e with e; exact e.symm)⟩⟩
theorem MAg.below {w w1 : World} {B mb g cap C n : Nat} {l : List Mx} (h : MAg w B mb g cap C l n) (hb : Below w.heap.size w w1) : MAg w1 B mb g cap C l n :=
  ⟨h.lo, h.lg, h.ne, h.blk.keep hb h.blk.lt, h.row.keep hb, fun x hx => (h.cl x hx).below hb, h.ap⟩
end Go.Proofs.YtgfkobfkncpmoaaDoor
