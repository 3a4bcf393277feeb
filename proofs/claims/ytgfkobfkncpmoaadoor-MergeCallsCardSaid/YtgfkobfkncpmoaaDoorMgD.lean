/- sink: a run changes places until none below it is ahead. Conditions: the merger stands; not more runs than memory bears. -/
import Derived.Test.YtgfkobfkncpmoaaDoorMgC
namespace Go.Proofs.YtgfkobfkncpmoaaDoor
open Go.RowKit

/-- So many words of a block of the call's own. -/
def OwnX (W : World) (g n : Nat) : Prop := ∃ cur : Array Value, Blk W g 145 cur ∧ n ≤ cur.size
theorem RowX.own {W : World} {g cap : Nat} {l : List Mx} (h : RowX W g cap l) : OwnX W g (l.length * 2) := by
  obtain ⟨cur, hb, q3, q1, q2, q4⟩ := h
  exact ⟨cur, hb, by omega⟩
theorem OwnX.set {W : World} {g n : Nat} (h : OwnX W g n) (p : Nat) (v : Value) : OwnX (W.setCell ⟨g, p, none⟩ v) g n := by
  obtain ⟨cur, hb, q⟩ := h
  exact ⟨_, hb.set p v, by rw [Array.size_setIfInBounds]; exact q⟩
theorem OwnX.get {W : World} {g n : Nat} (h : OwnX W g n) (o : Nat) (ho : o < n) : ∃ u, W.cell? ⟨g, o, none⟩ = some u := by
  obtain ⟨cur, hb, q⟩ := h
  have hlt : o < cur.size := by omega
  exact ⟨_, (hb.cell o).trans (Array.getElem?_eq_getElem hlt)⟩
/-- Two runs of a list change places. -/
def swX (l : List Mx) (i j : Nat) (a b : Mx) : List Mx := (l.set i b).set j a
theorem swx_len (l : List Mx) (i j : Nat) (a b : Mx) : (swX l i j a b).length = l.length := by unfold swX; rw [List.length_set, List.length_set]
theorem swx_map (l : List Mx) (i j : Nat) (a b : Mx) : (swX l i j a b).map Mx.r = swp (l.map Mx.r) i j a.r b.r := by unfold swX swp; rw [List.map_set, List.map_set]
theorem swx_perm {l : List Mx} {i j : Nat} {a b : Mx} (hi : i < l.length) (hj : j < l.length) (ha : l[i] = a) (hb : l[j] = b) : (swX l i j a b).Perm l := by
  unfold swX
  rw [← ha, ← hb]
  exact List.set_set_perm hi hj
theorem Blk.stay9 {w w' : World} {b : Nat} {T : TypeId} {xs : Array Value} (h : Blk w b T xs) (e : w'.heap[b]? = w.heap[b]?) : Blk w' b T xs := by unfold Blk at *; rw [e]; exact h
theorem ClA.stay9 {w w' : World} {v : Value} {l : List CT} (h : ClA w v l) (hs : ∀ b, v.ownBlock = some b → b < w.heap.size → w'.heap[b]? = w.heap[b]?) : ClA w' v l := by
  obtain ⟨A, c, rfl, h2, h3, h4⟩ := h
  refine ⟨A, c, rfl, h2, h3, fun h0 => ?_⟩
  obtain ⟨b, off, rfl, hh⟩ := h4 h0
  refine ⟨b, off, rfl, fun i hi j hj => ?_⟩
  rw [World.cell?_of_block (w := w) (hs b rfl (hh.lt h0))]
  exact hh i hi j hj
theorem MAg.swap {w : World} {B mb g cap C n : Nat} {l : List Mx} (h : MAg w B mb g cap C l n) {i j : Nat} {a b : Mx} (hi : i < l.length) (hj : j < l.length) (ha : l[i] = a) (hb : l[j] = b) :
    MAg (set2 (set2 w g (i * 2) b) g (j * 2) a) B mb g cap C (swX l i j a b) n ∧ Chx g w (set2 (set2 w g (i * 2) b) g (j * 2) a) := by
  have hc : Chx g w (set2 (set2 w g (i * 2) b) g (j * 2) a) := (Chx.set2 w g _ b).trans (Chx.set2 _ g _ a)
  refine ⟨⟨h.lo, h.lg, h.ne, ?_, (h.row.set i hi b).set j (by rw [List.length_set]; exact hj) a, fun x hx => ?_, fun x hx => h.ap x ((swx_perm hi hj ha hb).mem_iff.1 hx)⟩, hc⟩
  · rw [swx_len]
    exact h.blk.stay9 (hc.block mb h.blk.lt (Ne.symm h.ne))
  · have hx2 := (swx_perm hi hj ha hb).mem_iff.1 hx
    exact (h.cl x hx2).stay9 fun b hb2 hlt => hc.block b hlt (h.ap x hx2 b hb2).2.1

/-- While the child that is the least is looked for. -/
structure Lst (l : List Mx) (i k j : Nat) : Prop where
  pl : j = i ∨ (chd i j ∧ j < k)
  kk : 2 * i + 1 ≤ k ∧ k ≤ 2 * i + 3
  le : ∀ (c : Nat) (x y : Mx), l[j]? = some x → l[c]? = some y → (c = i ∨ (chd i c ∧ c < k)) → leR CT.cmp x.r y.r
theorem lst_start (l : List Mx) (i : Nat) : Lst l i (2 * i + 1) i :=
  ⟨.inl rfl, ⟨Nat.le_refl _, by omega⟩, fun c x y h1 h2 h3 => by
    have : c = i := h3.elim id fun q => by have := q.1; unfold chd at this; omega
    subst this
    rw [h1] at h2
    cases h2
    exact leR_refl ct_c3 _⟩
theorem lst_yes {l : List Mx} {i k j : Nat} {x y : Mx} (h : Lst l i k j) (hk : k ≤ 2 * i + 2) (hx : l[k]? = some x) (hy : l[j]? = some y) (hb : bfr CT.cmp x.r y.r = true) : Lst l i (k + 1) k :=
  ⟨.inr ⟨by unfold chd; have := h.kk; omega, by omega⟩, by have := h.kk; omega, fun c a b h1 h2 h3 => by
    rw [hx] at h1
    cases h1
    by_cases e : c = k
    · subst e
      rw [hx] at h2
      cases h2
      exact leR_refl ct_c3 _
    · exact leR_trans ct_c3 (bfr_yes hb) (h.le c y b hy h2 (h3.elim .inl fun q => .inr ⟨q.1, by omega⟩))⟩
theorem lst_no {l : List Mx} {i k j : Nat} {x y : Mx} (h : Lst l i k j) (hk : k ≤ 2 * i + 2) (hx : l[k]? = some x) (hy : l[j]? = some y) (hb : bfr CT.cmp x.r y.r = false) : Lst l i (k + 1) j :=
  ⟨h.pl.elim .inl fun q => .inr ⟨q.1, by omega⟩, by have := h.kk; omega, fun c a b h1 h2 h3 => by
    rw [hy] at h1
    cases h1
    by_cases e : c = k
    · subst e
      rw [hx] at h2
      cases h2
      exact (bfr_no ct_c3).1 hb
    · exact h.le c y b hy h2 (h3.elim .inl fun q => .inr ⟨q.1, by omega⟩)⟩
theorem lst_done {l : List Mx} {i k j : Nat} (h : Lst l i k j) (hk : k = 2 * i + 3 ∨ l.length ≤ k) (c : Nat) (x y : Mx) (hx : l[j]? = some x) (hy : l[c]? = some y) (hc : chd i c) : leR CT.cmp x.r y.r := by
  refine h.le c x y hx hy (.inr ⟨hc, ?_⟩)
  have hlt : c < l.length := by
    rcases Nat.lt_or_ge c l.length with q | q
    · exact q
    · rw [List.getElem?_eq_none q] at hy; cases hy
  have := h.kk
  unfold chd at hc
  omega
theorem map_at {l : List Mx} {i : Nat} {r : Rn CT} (h : (l.map Mx.r)[i]? = some r) : ∃ x, l[i]? = some x ∧ x.r = r := by
  rw [List.getElem?_map] at h
  cases hx : l[i]? with
  | none => rw [hx] at h; cases h
  | some x => rw [hx] at h; exact ⟨x, rfl, Option.some.inj h⟩
/-- A round that changes nothing more. -/
theorem sink_stop {l : List Mx} {k0 i k : Nat} (hS : Sk CT.cmp k0 i (l.map Mx.r)) (hL : Lst l i k i) (hk : k = 2 * i + 3 ∨ l.length ≤ k) : Hp CT.cmp k0 (l.map Mx.r) :=
  sk_end hS fun c a b h1 h2 hc => by
    obtain ⟨x, hx, rfl⟩ := map_at h1
    obtain ⟨y, hy, rfl⟩ := map_at h2
    exact lst_done hL hk c x y hx hy hc
theorem sink_go {l : List Mx} {k0 i k j : Nat} {a b : Mx} (hS : Sk CT.cmp k0 i (l.map Mx.r)) (hL : Lst l i k j) (hk : k = 2 * i + 3 ∨ l.length ≤ k) (hij : j ≠ i) (ha : l[i]? = some a) (hb : l[j]? = some b) : Sk CT.cmp k0 j ((swX l i j a b).map Mx.r) := by
  rw [swx_map]
  refine sk_step hS (by rw [List.getElem?_map, ha]; rfl) (by rw [List.getElem?_map, hb]; rfl) (hL.pl.elim (fun q => absurd q hij) fun q => q.1) (hL.le i b a hb ha (.inl rfl)) fun c x hx hc => ?_
  obtain ⟨y, hy, rfl⟩ := map_at hx
  exact lst_done hL hk c b y hb hy hc
end Go.Proofs.YtgfkobfkncpmoaaDoor
