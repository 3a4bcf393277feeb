/- drop passes over cells of the first run. Conditions: the merger stands; the first run has so many cells. -/
import Derived.Test.YtgfkobfkncpmoaaDoorMgE
namespace Go.Proofs.YtgfkobfkncpmoaaDoor
open Go.RowKit

/-- All but two blocks stand as they stood. -/
structure Chy (g mb : Nat) (w w' : World) : Prop where
  os : w'.os = w.os
  tape : w'.tape = w.tape
  output : w'.output = w.output
  size : w.heap.size ≤ w'.heap.size
  block : ∀ k, k < w.heap.size → k ≠ g → k ≠ mb → w'.heap[k]? = w.heap[k]?
theorem Chy.of {g mb : Nat} {w w' : World} (h : Below w.heap.size w w') : Chy g mb w w' := ⟨h.os, h.tape, h.output, h.size, fun k hk _ _ => h.block k hk⟩
theorem Chy.refl (g mb : Nat) (w : World) : Chy g mb w w := Chy.of (Below.refl _ w)
theorem Chx.y {g mb : Nat} {w w' : World} (h : Chx g w w') : Chy g mb w w' := ⟨h.os, h.tape, h.output, h.size, fun k hk q _ => h.block k hk q⟩
theorem Chx.y2 {g mb : Nat} {w w' : World} (h : Chx mb w w') : Chy g mb w w' := ⟨h.os, h.tape, h.output, h.size, fun k hk _ q => h.block k hk q⟩
theorem Chy.trans {g mb : Nat} {w w1 w2 : World} (h : Chy g mb w w1) (h2 : Chy g mb w1 w2) : Chy g mb w w2 :=
  ⟨h2.os.trans h.os, h2.tape.trans h.tape, h2.output.trans h.output, Nat.le_trans h.size h2.size, fun k hk hn hm => (h2.block k (by have := h.size; omega) hn hm).trans (h.block k hk hn hm)⟩
theorem Chy.below {g mb B : Nat} {w w' : World} (h : Chy g mb w w') (hg : B ≤ g) (hm : B ≤ mb) (hB : B ≤ w.heap.size) : Below B w w' :=
  ⟨h.os, h.tape, h.output, h.size, fun k hk => h.block k (by omega) (by omega) (by omega)⟩
theorem MAg.left {w : World} {B mb g cap C n : Nat} {l : List Mx} (h : MAg w B mb g cap C l n) (m : Nat) : MAg (w.setCell ⟨mb, 1, none⟩ (.int .i64 (m : Int))) B mb g cap C l m ∧ Chy g mb w (w.setCell ⟨mb, 1, none⟩ (.int .i64 (m : Int))) := by
  have hc := Chx.set w mb 1 (.int .i64 (m : Int))
  refine ⟨⟨h.lo, h.lg, h.ne, h.blk.set 1 _, ?_, fun x hx => (h.cl x hx).stay9 fun b hb hlt => hc.block b hlt (h.ap x hx b hb).1, h.ap⟩, hc.y2⟩
  obtain ⟨cur, hb, h2⟩ := h.row
  exact ⟨cur, hb.stay9 (hc.block g hb.lt h.ne), h2⟩
theorem take_set2 {α : Type} (l : List α) (n p : Nat) (v : α) : (l.set p v).take n = (l.take n).set p v := by
  apply List.ext_getElem?
  intro t
  rw [List.getElem?_take, List.getElem?_set, List.getElem?_set, List.getElem?_take, List.length_take]
  by_cases h1 : t < n
  · rw [if_pos h1, if_pos h1]
    by_cases h2 : p = t
    · rw [if_pos h2, if_pos h2]
      by_cases h3 : p < l.length
      · rw [if_pos h3, if_pos (by omega)]
      · rw [if_neg h3, if_neg (by omega)]
    · rw [if_neg h2, if_neg h2]
  · rw [if_neg h1, if_neg h1]
    by_cases h2 : p = t
    · rw [if_pos h2, if_neg (by omega)]
    · rw [if_neg h2]
theorem RowX.put {w : World} {g cap : Nat} {l : List Mx} (h : RowX w g cap l) (p : Nat) (v : Value) (l2 : List Mx) (hl : l2.length = l.length) (e : flatX l2 = (flatX l).set p v) : RowX (w.setCell ⟨g, p, none⟩ v) g cap l2 := by
  obtain ⟨cur, hb, q3, q1, q2, q4⟩ := h
  refine ⟨_, hb.set p v, by rw [Array.size_setIfInBounds]; exact q3, by rw [hl]; exact q1, q2, ?_⟩
  rw [hl, e, ← q4, Array.toList_setIfInBounds, take_set2]
theorem RowX.take {w : World} {g cap : Nat} {l : List Mx} (h : RowX w g cap l) (k : Nat) (hk : k ≤ l.length) : RowX w g cap (l.take k) := by
  obtain ⟨cur, hb, q3, q1, q2, q4⟩ := h
  refine ⟨cur, hb, q3, by rw [List.length_take]; omega, q2, ?_⟩
  rw [List.length_take, Nat.min_eq_left hk]
  have e : flatX l = flatX (l.take k) ++ flatX (l.drop k) := by rw [← flatX_app, List.take_append_drop]
  have h2 : cur.toList.take (k * 2) = (cur.toList.take (l.length * 2)).take (k * 2) := by rw [List.take_take, Nat.min_eq_left (by omega)]
  rw [h2, q4, e, List.take_append_of_le_length (by rw [flatX_len, List.length_take]; omega), List.take_of_length_le (by rw [flatX_len, List.length_take]; omega)]
/-- The root is another one: the others stand as they stood. -/
theorem sk_root {α : Type} {f : α → α → Int} {r x : Rn α} {t u : List (Rn α)} (h : Hp f 0 (r :: t)) (hu : ∀ (i : Nat) (y : Rn α), u[i]? = some y → t[i]? = some y) : Sk f 0 0 (x :: u) :=
  ⟨fun p c a b h1 h2 _ hp hc => by
    obtain ⟨p, rfl⟩ : ∃ q, p = q + 1 := ⟨p - 1, by omega⟩
    obtain ⟨c, rfl⟩ : ∃ q, c = q + 1 := ⟨c - 1, by unfold chd at hc; omega⟩
    rw [List.getElem?_cons_succ] at h1 h2
    exact h (p + 1) (c + 1) a b (by rw [List.getElem?_cons_succ]; exact hu p a h1) (by rw [List.getElem?_cons_succ]; exact hu c b h2) (Nat.zero_le _) hc, fun q c a b _ _ _ hq _ => by unfold chd at hq; omega, Nat.le_refl _⟩
theorem sk_none {α : Type} {f : α → α → Int} : Sk f 0 0 ([] : List (Rn α)) := ⟨fun p c a b h1 => by simp at h1, fun p c a b h1 => by simp at h1, Nat.le_refl _⟩
theorem wp_lt9 {P : Program} {c : Code} {Q : Exit → Act → World → Prop} {a : Act} {w : World} (F : World → Prop) (h0 : F w) (h : ∀ W, F W → c.wp P Q a W) : c.wp P Q a w := h w h0
theorem HC.stay9 {w w' : World} {b off : Nat} {l : List CT} (h : HC w b off l) (e : w'.heap[b]? = w.heap[b]?) : HC w' b off l := fun i hi j hj => by
  rw [World.cell?_of_block (w := w) e]
  exact h i hi j hj
theorem RowX.stay {w w' : World} {g cap : Nat} {l : List Mx} (h : RowX w g cap l) (e : w'.heap[g]? = w.heap[g]?) : RowX w' g cap l := by
  obtain ⟨cur, hb, h2⟩ := h
  exact ⟨cur, hb.stay9 e, h2⟩
theorem RowX.lt {w : World} {g cap : Nat} {l : List Mx} (h : RowX w g cap l) : g < w.heap.size := by
  obtain ⟨cur, hb, h2⟩ := h
  exact hb.lt
theorem flatX_set0 (u v : Value) (r : Rn CT) (t : List Mx) : flatX (⟨v, r⟩ :: t) = (flatX (⟨u, r⟩ :: t)).set 0 v := rfl
/-- The first run is cut. -/
theorem MAg.cut {W : World} {B mb g cap C n b1 o1 n1 c1 ix k : Nat} {hx : CT} {tx : List CT} {t : List Mx} (h : MAg W B mb g cap C (⟨.slice (some ⟨b1, o1, none⟩) n1 c1, ⟨hx, tx, ix⟩⟩ :: t) n) (hn : tx.length + 1 = n1) (hk : k < n1) {h2 : CT} {t2 : List CT} (hd : (hx :: tx).drop k = h2 :: t2) :
    MAg ((W.setCell ⟨g, 0, none⟩ (.slice (some ⟨b1, o1 + k * 8, none⟩) (n1 - k) (c1 - k))).drew) B mb g cap C (⟨.slice (some ⟨b1, o1 + k * 8, none⟩) (n1 - k) (c1 - k), ⟨h2, t2, ix⟩⟩ :: t) n ∧ Chx g W ((W.setCell ⟨g, 0, none⟩ (.slice (some ⟨b1, o1 + k * 8, none⟩) (n1 - k) (c1 - k))).drew) := by
  have hc := Chx.set W g 0 (.slice (some ⟨b1, o1 + k * 8, none⟩) (n1 - k) (c1 - k))
  refine ⟨MAg.below ?_ (Below.refl _ _).drew, hc.trans (Chx.of (Below.refl _ _).drew)⟩
  have hap := h.ap _ (List.mem_cons_self ..) b1 rfl
  obtain ⟨b, o, c, e, q1, q2, hcc⟩ := cla_words (h.cl _ (List.mem_cons_self ..))
  injection e with e1 e2 e3
  injection e1 with e1
  injection e1 with e4 e5
  subst e4 e5 e3
  have hl : t2.length + 1 = n1 - k := by
    have := congrArg List.length hd
    rw [List.length_drop, List.length_cons, List.length_cons, hn] at this
    omega
  refine ⟨h.lo, h.lg, h.ne, h.blk.stay9 (hc.block mb h.blk.lt (Ne.symm h.ne)), h.row.put 0 _ _ rfl rfl, fun y hy => ?_, fun y hy => ?_⟩
  · rcases List.mem_cons.1 hy with rfl | hy
    · refine ⟨_, _, by rw [show (Rn.cs ⟨h2, t2, ix⟩).length = n1 - k from hl], by rw [show (Rn.cs ⟨h2, t2, ix⟩).length = n1 - k from hl]; omega, by omega, fun _ => ⟨_, _, rfl, ?_⟩⟩
      show HC _ _ _ (h2 :: t2)
      rw [← hd]
      exact (hcc.drop k).stay9 (hc.block b1 (hcc.lt (by simp)) hap.2.1)
    · exact (h.cl y (List.mem_cons_of_mem _ hy)).stay9 fun b hb hlt => hc.block b hlt (h.ap y (List.mem_cons_of_mem _ hy) b hb).2.1
  · rcases List.mem_cons.1 hy with rfl | hy
    · intro b hb
      injection hb with hb
      subst hb
      exact hap
    · exact h.ap y (List.mem_cons_of_mem _ hy)
/-- The first run is gone, the last one stands in its place. -/
theorem MAg.shift {W W3 : World} {B mb g cap C n : Nat} {u V : Value} {r : Rn CT} {t : List Mx} {z : Mx} (h : MAg W B mb g cap C (⟨u, r⟩ :: t) n) (hH : Hp CT.cmp 0 ((⟨u, r⟩ :: t : List Mx).map Mx.r)) (hz : (⟨V, r⟩ :: t)[t.length]? = some z) (hR : RowX W3 g cap (((⟨V, r⟩ :: t : List Mx).set 0 z).take t.length)) (hc : Chx g W W3) :
    MAg (W3.setCell ⟨mb, 0, none⟩ (.slice (some ⟨g, 0, none⟩) t.length cap)) B mb g cap C (((⟨V, r⟩ :: t : List Mx).set 0 z).take t.length) n ∧ Chy g mb W (W3.setCell ⟨mb, 0, none⟩ (.slice (some ⟨g, 0, none⟩) t.length cap)) ∧ Sk CT.cmp 0 0 ((((⟨V, r⟩ :: t : List Mx).set 0 z).take t.length).map Mx.r) ∧ ((((⟨V, r⟩ :: t : List Mx).set 0 z).take t.length).map Mx.r).Perm (t.map Mx.r) := by
  have hc2 := Chx.set W3 mb 0 (.slice (some ⟨g, 0, none⟩) t.length cap)
  have hcy : Chy g mb W (W3.setCell ⟨mb, 0, none⟩ (.slice (some ⟨g, 0, none⟩) t.length cap)) := hc.y.trans hc2.y2
  have hrow := hR.stay (hc2.block g hR.lt h.ne)
  have hlen : (((⟨V, r⟩ :: t : List Mx).set 0 z).take t.length).length = t.length := by rw [List.length_take, List.length_set, List.length_cons]; omega
  have hblk : Blk (W3.setCell ⟨mb, 0, none⟩ (.slice (some ⟨g, 0, none⟩) t.length cap)) mb 143 #[.slice (some ⟨g, 0, none⟩) (((⟨V, r⟩ :: t : List Mx).set 0 z).take t.length).length cap, .int .i64 (n : Int)] := by
    rw [hlen]
    exact (h.blk.stay9 (hc.block mb h.blk.lt (Ne.symm h.ne))).set 0 _
  have hin : ∀ y ∈ ((⟨V, r⟩ :: t : List Mx).set 0 z).take t.length, y ∈ t := by
    rcases List.eq_nil_or_concat t with rfl | ⟨t0, z', ht⟩
    · intro y hy
      simp at hy
    · rw [List.concat_eq_append] at ht
      subst ht
      have e : z = z' := by simpa using hz.symm
      subst e
      intro y hy
      rw [List.set_cons_zero, List.length_append, List.length_singleton, List.take_succ_cons, List.take_left'  rfl] at hy
      rcases List.mem_cons.1 hy with rfl | hy
      · simp
      · simp [hy]
  refine ⟨⟨h.lo, h.lg, h.ne, hblk, hrow, fun y hy => (h.cl y (List.mem_cons_of_mem _ (hin y hy))).stay9 fun b hb hlt => ?_, fun y hy => h.ap y (List.mem_cons_of_mem _ (hin y hy))⟩, hcy, ?_⟩
  · have := h.ap y (List.mem_cons_of_mem _ (hin y hy)) b hb
    exact hcy.block b hlt this.2.1 this.1
  · rcases List.eq_nil_or_concat t with rfl | ⟨t0, z', ht⟩
    · exact ⟨sk_none, List.Perm.refl _⟩
    · rw [List.concat_eq_append] at ht
      subst ht
      have e : z = z' := by simpa using hz.symm
      subst e
      rw [List.set_cons_zero, List.length_append, List.length_singleton, List.take_succ_cons, List.take_left' rfl]
      rw [List.map_cons] at hH ⊢
      refine ⟨sk_root hH fun i y hy => ?_, ?_⟩
      · rw [List.map_append, List.getElem?_append_left]
        · exact hy
        · rcases Nat.lt_or_ge i (t0.map Mx.r).length with q | q
          · exact q
          · rw [List.getElem?_eq_none q] at hy; cases hy
      · rw [List.map_append]
        exact (List.perm_append_comm (l₁ := [z.r]) (l₂ := t0.map Mx.r))
end Go.Proofs.YtgfkobfkncpmoaaDoor
