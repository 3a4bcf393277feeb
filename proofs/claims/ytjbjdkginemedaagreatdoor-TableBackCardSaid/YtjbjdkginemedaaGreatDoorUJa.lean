/- Two rows of cells that grow side by side; gathering cell by cell. Conditions: as each theorem names them. -/
import Derived.Test.YtjbjdkginemedaaGreatDoorQT7
import Derived.Test.YtjbjdkginemedaaGreatDoorQT8
namespace Go.Proofs.YtjbjdkginemedaaGreatDoor
open Go.RowKit

theorem gathIn_snoc (f : CT → Bool) (most : Int) : ∀ (p acc : List CT) (c : CT), gathIn f most (p ++ [c]) acc = if ((gathIn f most p acc).length : Int) < most ∧ f c = true then gathIn f most p acc ++ [c] else gathIn f most p acc
  | [], _, _ => rfl
  | _ :: p, _, c => gathIn_snoc f most p _ c
theorem gathIn_len (f : CT → Bool) (most : Int) : ∀ (p acc : List CT), (gathIn f most p acc).length ≤ acc.length + p.length
  | [], acc => Nat.le_refl _
  | d :: p, acc => by
    have h := gathIn_len f most p (if (acc.length : Int) < most ∧ f d = true then acc ++ [d] else acc)
    have h2 : (if (acc.length : Int) < most ∧ f d = true then acc ++ [d] else acc).length ≤ acc.length + 1 := by split <;> simp
    show (gathIn f most p _).length ≤ acc.length + (p.length + 1)
    omega
section
variable {w W : World} {t k : Nat} {vb vi : Value} {ps : List (List CT)} {u : Nat → Value}
/-- A row's cells. -/
theorem row9b (h : Tb9 w W t vb vi ps u k) (hp : Pt9 ps) (hk : k < 1000000) (hL : LaidU w) (row : ByteArray) (hrow : row.size ≤ 1000) :
    Calls Tryz.prog 32 #[.pointer (some ⟨t, 0, none⟩), .string row] W fun e w' => ∃ v m1 m2, e = .returned (.tuple #[v, .int .i64 0]) ∧ At9 (abvP ps (firstL row.data.toList)) ps.length m1 ∧ At9 (behP ps (firstL row.data.toList)) ps.length m2 ∧ But W.heap.size t W w' ∧ CRow w' W.heap.size v (ps.flatten.filter (rowF row)) ∧ Tb9 w w' t vb vi ps u (k + (m2 - (m1 - 1))) := by
  have hl := h.hl hp (by omega) hL
  obtain ⟨A, cap, e, h1, h2⟩ := h.vi
  rcases Nat.eq_zero_or_pos ps.length with h0 | h0
  · have hnil : ps = [] := List.eq_nil_of_length_eq_zero h0
    have hvi := h.nil hnil
    have hb := h.blk
    rw [hvi] at hb
    refine (row_nil9 t vb row hrow k W hb).mono fun e w' ⟨v, e1, e2⟩ => ⟨v, 0, 0, e1, ⟨Nat.zero_le _, fun i hi => by omega, fun hi => by omega⟩, ⟨Nat.zero_le _, fun i hi => by omega, fun hi => by omega⟩, e2.but, ?_, ?_⟩
    · rw [hnil]; exact e2.row
    · rw [← hvi] at e2; exact h.gt e2
  · obtain ⟨g, e2, e3, e4⟩ := h2 h0
    rw [e2] at e
    subst e
    have h5 := row_any9 t vb g 0 ps.length cap (by have := hp.n; omega) h0 h1 e3 row hrow k (esL ps u) ps (esL_len ps u) rfl hp.cut (by have := hp.sum; omega) W (fun i x p hx hpp => by
      rw [esL_at hpp] at hx
      obtain rfl := Option.some.inj hx
      refine ⟨h.ky i p hpp, ?_⟩
      obtain ⟨d, tl, rfl, e7, _⟩ := head_cell hp.cut hpp
      have h8 := bc_tight (hp.bc _ (List.mem_of_getElem? hpp) d List.mem_cons_self)
      show (keyL d).length ≤ _
      omega) h.blk e4 hl
    exact h5.mono fun e w' ⟨v, m1, m2, q1, q2, q3, q4⟩ => ⟨v, m1, m2, q1, q2, q3, q4.but, q4.row, h.gt q4⟩
/-- The first cells from a place on. -/
theorem from9b (h : Tb9 w W t vb vi ps u k) (hp : Pt9 ps) (hk : k < 1000000) (hL : LaidU w) (most : Int) (c : CT) :
    Calls Tryz.prog 33 #[.pointer (some ⟨t, 0, none⟩), c.v, .int .i64 most] W fun e w' => ∃ v m, e = .returned (.tuple #[v, .int .i64 0]) ∧ At9 (froP ps c) ps.length m ∧ But W.heap.size t W w' ∧ CRow w' W.heap.size v (gath (fun x => decide (0 ≤ CT.cmp x c)) most (ps.drop (m - 1)) []).1 ∧ Tb9 w w' t vb vi ps u (k + (gath (fun x => decide (0 ≤ CT.cmp x c)) most (ps.drop (m - 1)) []).2) := by
  have hl := h.hl hp (by omega) hL
  obtain ⟨A, cap, e, h1, h2⟩ := h.vi
  rcases Nat.eq_zero_or_pos ps.length with h0 | h0
  · have hnil : ps = [] := List.eq_nil_of_length_eq_zero h0
    have hvi := h.nil hnil
    have hb := h.blk
    rw [hvi] at hb
    refine (from_nil9 t vb most c k W hb).mono fun e w' ⟨v, e1, e2⟩ => ⟨v, 0, e1, ⟨Nat.zero_le _, fun i hi => by omega, fun hi => by omega⟩, e2.but, ?_, ?_⟩
    · rw [hnil]; exact e2.row
    · rw [← hvi] at e2
      have h' := h.gt e2
      rw [hnil] at h' ⊢
      exact h'
  · obtain ⟨g, e2, e3, e4⟩ := h2 h0
    rw [e2] at e
    subst e
    have h5 := from_any9 t vb g 0 ps.length cap (by have := hp.n; omega) h0 h1 e3 most c k (esL ps u) ps (esL_len ps u) rfl h.keys (by have := hp.sum; omega) W (froP ps c) (fun i x hx => by
      have hi : i < ps.length := by have := (List.getElem?_eq_some_iff.1 hx).1; rw [esL_len] at this; exact this
      have hpp : ps[i]? = some ps[i] := List.getElem?_eq_getElem hi
      rw [esL_at hpp] at hx
      obtain rfl := Option.some.inj hx
      exact fro_some hpp) (fro_mono hp.cut c rfl) h.blk e4 hl
    exact h5.mono fun e w' ⟨v, m, q1, q2, q4⟩ => ⟨v, m, q1, q2, q4.but, q4.row, h.gt q4⟩
end
structure Two9 (B : Nat) (W0 W : World) (v1 v2 : Value) (l1 l2 : List CT) : Prop where
  bel : Below B W0 W
  r1 : CRow W B v1 l1
  r2 : CRow W B v2 l2
  ne : v1.ownBlock = none ∨ v1.ownBlock ≠ v2.ownBlock
  siz : B ≤ W.heap.size
theorem Two9.below {B : Nat} {W0 W W' : World} {v1 v2 : Value} {l1 l2 : List CT} (h : Two9 B W0 W v1 v2 l1 l2) (hb : Below W.heap.size W W') : Two9 B W0 W' v1 v2 l1 l2 :=
  ⟨h.bel.trans (hb.mono h.siz), h.r1.below hb, h.r2.below hb, h.ne, Nat.le_trans h.siz hb.size⟩
theorem Two9.swap {B : Nat} {W0 W : World} {v1 v2 : Value} {l1 l2 : List CT} (h : Two9 B W0 W v1 v2 l1 l2) : Two9 B W0 W v2 v1 l2 l1 :=
  ⟨h.bel, h.r2, h.r1, by
    rcases h.ne with e | e
    · cases e2 : v2.ownBlock with
      | none => exact .inl rfl
      | some g => exact .inr (by rw [e]; simp)
    · exact .inr (Ne.symm e), h.siz⟩
theorem Two9.more {B : Nat} {W0 W W' : World} {v1 v1' v2 : Value} {l1 l1' l2 : List CT} (h : Two9 B W0 W v1 v2 l1 l2) (hr : CRow W' B v1' l1') (hg : W.grownBy W' v1.ownBlock) (hd : v1'.ownBlock = v1.ownBlock ∨ v1'.ownBlock = some W.heap.size) : Two9 B W0 W' v1' v2 l1' l2 := by
  have hlt : ∀ j, v1.ownBlock = some j → B ≤ j := fun j hj => (World.ownsRow.lt h.r1 j hj).1
  refine ⟨h.bel.trans ((Below.refl _ _).grown hg h.siz hlt), hr, World.ownsRow.kept h.r2 hg h.swap.ne, ?_, Nat.le_trans h.siz hg.size⟩
  rcases hd with e | e
  · rw [e]; exact h.ne
  · rw [e]
    refine .inr fun q => ?_
    have h1 := (World.ownsRow.lt h.r2 _ q.symm).2
    omega
/-- Two rows of no cells in new blocks. -/
theorem Two9.start (W : World) : Two9 W.heap.size W ((W.alloc (.cells #[] 26)).alloc (.cells #[] 26)) (.slice (some ⟨W.heap.size, 0, none⟩) 0 0) (.slice (some ⟨W.heap.size + 1, 0, none⟩) 0 0) [] [] := by
  have s1 : (W.alloc (.cells #[] 26)).heap.size = W.heap.size + 1 := World.size_alloc _ _
  have h1 := empty_crow W W.heap.size (Nat.le_refl _)
  have h2 := empty_crow (W.alloc (.cells #[] 26)) W.heap.size (by rw [s1]; omega)
  rw [s1] at h2
  refine ⟨(below_new _ _).alloc (by rw [s1]; omega) _, h1.below (below_new _ _), h2, .inr ?_, by rw [World.size_alloc, s1]; omega⟩
  show some W.heap.size ≠ some (W.heap.size + 1)
  intro e
  have := Option.some.inj e
  omega
end Go.Proofs.YtjbjdkginemedaaGreatDoor
