/- A disk of the call's own and what stands beside it. Conditions: none. -/
import Derived.Test.YtofkfafdodhmdaaGreatDoorNP
namespace Go.Proofs.YtofkfafdodhmdaaGreatDoor
open Go.RowKit

theorem Mv.blk {w w1 : World} {db mb b : Nat} {fs fs1 : List Fl} {T : TypeId} {xs : Array Value} (h : Mv w w1 db mb fs fs1) (hb : Blk w b T xs) (hn : ¬ Ft db mb fs b) : Blk w1 b T xs ∧ ¬ Ft db mb fs1 b :=
  ⟨(h.ch.block b hb.lt hn).trans hb, fun q => (h.sub b q).elim hn fun r => absurd hb.lt (Nat.not_lt.2 r)⟩
theorem Al.save2 {w W : World} {db mb j : Nat} {z : Int} {fs : List Fl} {p : PV} (h : Al w W db mb z j fs p) (hj : j ≤ 990) (hz : 0 ≤ z ∧ z ≤ 16777216) (s : Sta) (v : Value) (hv : SlI W v s.t) (hl : (rdM p).length ≤ 1000000) {q : Int} {p1 : PV} (hp : pSave s z p = (q, p1)) :
    Calls Tryz.prog 22 #[.pointer (some ⟨db, 0, none⟩), .string mN, staV s.g s.a s.n v] W fun e w' => ∃ fs1, e = .returned (.int .i64 q) ∧ Hid (Al w w' db mb z (j + 6) fs1 p1 ∧ Mv W w' db mb fs fs1) := by
  refine (save9_any h.sd hj hz s v hv hl).mono ?_
  rintro e w' ⟨rfl, fs1, h1, h2⟩
  rw [hp] at h1 ⊢
  exact ⟨fs1, rfl, h.go h1 h2, h2⟩
theorem frame_le {s : Sta} (h : s.right = true) : (frameM s.enc).length ≤ 499 := by
  have h1 := enc_len ((Sta.right_iff _).1 h)
  have h2 := numW_len9 s.enc.length (by omega)
  rw [frame_len]
  omega
theorem not_ft {w W : World} {db mb j : Nat} {z : Int} {fs : List Fl} {p : PV} (h : Al w W db mb z j fs p) {b : Nat} (hb : W.heap.size ≤ b) : ¬ Ft db mb fs b := fun q => absurd (h.sd.lt q).2 (Nat.not_lt.2 hb)

theorem Al.upto {w W : World} {db mb j j' : Nat} {z : Int} {fs : List Fl} {p : PV} (h : Al w W db mb z j fs p) (hj : j ≤ j') : Al w W db mb z j' fs p := ⟨h.sd.upto hj, h.be⟩
theorem Al.sets {w W : World} {db mb j : Nat} {z : Int} {fs : List Fl} {p : PV} (h : Al w W db mb z j fs p) {b : Nat} (hn : ¬ Ft db mb fs b) (hb : w.heap.size ≤ b) (i : Nat) (u : Value) : Al w (W.setCell ⟨b, i, none⟩ u) db mb z j fs p :=
  ⟨⟨h.sd.v, h.sd.dk.keep fun k q => (Chg.of_set (S := fun a => a = b) W b i u rfl).block k (h.sd.lt q).2 fun e => hn (e ▸ q), h.sd.good⟩, h.be.setCell (p := ⟨b, i, none⟩) hb u⟩
theorem row_blk {w w1 : World} {B : Nat} {v : Value} {l : List UInt8} (h : Row w B v l) (hk : ∀ g, v.ownBlock = some g → w1.heap[g]? = w.heap[g]?) : Row w1 B v l := own_block0 h hk
/-- The number of the last state. -/
theorem last_g {ss : List Sta} (h : Chain ss) : 0 ≤ (ss.getLastD sta0).g ∧ (ss.getLastD sta0).g ≤ 1099511627776 := by
  rcases List.eq_nil_or_concat ss with rfl | ⟨l, s, rfl⟩
  · exact ⟨Int.le_refl _, by show (0 : Int) ≤ _; omega⟩
  · have e : ((l.concat s).getLastD sta0) = s := by rw [List.concat_eq_append]; simp
    rw [e]
    have := (Sta.right_iff _).1 (chain_right h s (by rw [List.concat_eq_append]; simp))
    have h1 := this.g0
    have h2 := this.g1
    omega
end Go.Proofs.YtofkfafdodhmdaaGreatDoor
