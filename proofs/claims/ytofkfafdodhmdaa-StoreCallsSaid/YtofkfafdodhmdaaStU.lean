/- Sizes behind calls; a crash of a law's disk. Conditions: none. -/
import Derived.Test.YtofkfafdodhmdaaStT
import Derived.Test.YtofkfafdodhmdaaStVa
namespace Go.Proofs.Ytofkfafdodhmdaa
open Go.RowKit

theorem GoodV.tight {vs : Vs} {z : Int} {u i : Nat} (h : GoodV vs z u i) (n : Nat) (hn : sizeV vs ≤ n) : GoodV vs (n : Int) u i :=
  ⟨h.fl, h.len, h.rn, h.ub, by have : (sizeV vs : Int) ≤ (n : Int) := by omega
                               exact this, h.ri⟩
theorem did_size {c : Cl} {q z : Int} {fs fs' : List Fl} {u u' i : Nat} (h : Did c q z fs u fs' u') (hg : GoodV (viewF fs) z u i) (hz : z ≤ 16777216) (hap : fs.Pairwise Fl.apart) : sizeF fs' ≤ sizeF fs + c.d.length := by
  have hs := hg.sz
  have ht := hg.tight (sizeV (viewF fs)) (Nat.le_refl _)
  have e0 := view_size fs
  have e1 := view_size fs'
  have hs2 : ((sizeV (viewF fs) : Nat) : Int) ≤ z := hs
  rcases h with ⟨_, _, hr, hle, hv, _⟩ | ⟨_, _, rfl, _⟩ | ⟨_, _, ⟨_, _, hv⟩ | ⟨_, _, rfl⟩⟩ | ⟨_, _, ⟨_, _, hv⟩ | ⟨_, _, rfl⟩⟩ | ⟨_, _, ⟨_, hr, f, hf, hv⟩ | ⟨_, _, rfl⟩ | ⟨_, _, _, rfl⟩⟩ | ⟨_, _, _, l, hp, _, rfl⟩ | ⟨_, _, rfl, _⟩
  · have hw := (good_write (hg.tight (sizeV (viewF fs) + c.d.length) (Nat.le_add_right _ _)) c.nm hr c.d (by omega) (by omega)).sz
    rw [← hv] at hw
    have hw2 : ((sizeV (viewF fs') : Nat) : Int) ≤ ((sizeV (viewF fs) + c.d.length : Nat) : Int) := hw
    omega
  · omega
  · have hw := (good_sync ht c.nm).sz
    rw [← hv] at hw
    have hw2 : ((sizeV (viewF fs') : Nat) : Int) ≤ ((sizeV (viewF fs) : Nat) : Int) := hw
    omega
  · omega
  · have hw := (good_drop ht c.nm).sz
    rw [← hv] at hw
    have hw2 : ((sizeV (viewF fs') : Nat) : Int) ≤ ((sizeV (viewF fs) : Nat) : Int) := hw
    omega
  · omega
  · have hw := (good_call ht c.nm c.tg hf hr).sz
    rw [← hv] at hw
    have hw2 : ((sizeV (viewF fs') : Nat) : Int) ≤ ((sizeV (viewF fs) : Nat) : Int) := hw
    omega
  · omega
  · omega
  · have hw := (good_crash ht hp hap c.n).sz
    have hw2 : ((sizeV (viewF (((fs.map (mF l c.n)).filter keepB).map cutF)) : Nat) : Int) ≤ ((sizeV (viewF fs) : Nat) : Int) := hw
    omega
  · omega
theorem crash_lw {w W : World} {B db mb : Nat} {fs : List Fl} {z : Int} {u i : Nat} (h : LwS w W B db mb fs z u i) (hi : i ≤ 1000) (hz : z ≤ 16777216) (K : Int) (hK1 : -9223372036854775808 ≤ K) (hK2 : K < 9223372036854775808) :
    Calls Try.prog 28 #[.pointer (some ⟨db, 0, none⟩), .int .i64 K] W fun e w' => e = .returned (.tuple #[]) ∧ ∃ l, l.Perm (allP fs) ∧ l.Pairwise (fun x y => x.2.1 ≤ y.2.1) ∧ LwS w w' B db mb (crF fs l K) z u (i + 1) ∧ Chg (Ft db mb fs) W w' ∧ sizeF (crF fs l K) ≤ sizeF fs := by
  obtain ⟨h1, h2, h3, h4, h5, h6, _⟩ := good_fs h.gd hi hz
  refine (crash_ok h.dk K hK1 hK2 h2 (fun f hf => (h6 f hf).2.1) (by omega) (fun f hf => by have := (h6 f hf).1; unfold maxLen; omega)).mono fun e w' ⟨he, l, a1, a2, a3, a4⟩ => ⟨he, l, a1, a2, ⟨a3, good_crash h.gd a1 h.dk.ap K, chg_low a4 h.b fun _ q => Nat.le_trans h.lo (h.dk.ft q).1, h.lo⟩, a4, ?_⟩
  have hw := (good_crash (h.gd.tight (sizeV (viewF fs)) (Nat.le_refl _)) a1 h.dk.ap K).sz
  have hw2 : ((sizeV (viewF (crF fs l K)) : Nat) : Int) ≤ ((sizeV (viewF fs) : Nat) : Int) := hw
  have e0 := view_size fs
  have e1 := view_size (crF fs l K)
  omega
/-- A disk turns no further. -/
theorem LwS.stay {w W : World} {B db mb : Nat} {fs : List Fl} {z : Int} {u i : Nat} (h : LwS w W B db mb fs z u i) : LwS w W B db mb fs z u (i + 1) := ⟨h.dk, h.gd.more, h.b, h.lo⟩
theorem size_each {fs : List Fl} {n : Nat} (h : sizeF fs ≤ n) {f : Fl} (hf : f ∈ fs) : f.d.length ≤ n := by
  refine Nat.le_trans ?_ h
  obtain ⟨A, C, rfl⟩ := List.append_of_mem hf
  unfold sizeF
  simp
  omega
/-- The calls so far. -/
structure LpS (w W : World) (B db mb : Nat) (fs : List Fl) (z : Int) (u i n : Nat) : Prop where
  lw : LwS w W B db mb fs z u i
  sz : sizeF fs ≤ n
theorem LpS.below {w W W' : World} {B db mb : Nat} {fs : List Fl} {z : Int} {u i n : Nat} (h : LpS w W B db mb fs z u i n) (hb : Below W.heap.size W W') : LpS w W' B db mb fs z u i n := ⟨h.lw.below hb, h.sz⟩
theorem lp_do {w W : World} {B db mb : Nat} {fs : List Fl} {z : Int} {u i n : Nat} (h : LpS w W B db mb fs z u i n) (hi : i ≤ 1000) (hz : 0 ≤ z ∧ z ≤ 16777216) (c : Cl) (hc : c.ok) (hd : SlA W c.dv c.d) :
    Calls Try.prog 12 #[.pointer (some ⟨db, 0, none⟩), .agg #[.int .i64 c.wh, .string c.nm, .string c.tg, c.dv, .int .i64 c.n]] W fun e w' => ∃ q fs' u', e = .returned (.int .i64 q) ∧ DoE W w' B db mb z i c q fs u fs' u' ∧ LpS w w' B db mb fs' z u' (i + 1) (n + c.d.length) :=
  (cl_do h.lw hi hz c hc hd).mono fun _ _ ⟨q, fs', u', e, hE, hl⟩ => ⟨q, fs', u', e, hE, hl, by have := did_size hE.did h.lw.gd hz.2 h.lw.dk.ap; have := h.sz; omega⟩
end Go.Proofs.Ytofkfafdodhmdaa
