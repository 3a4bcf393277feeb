/- Both disks side by side, as package manifest's and the document's calls leave them. Conditions: none. -/
import Derived.Test.YtofkfafdodhmdaaGreatDoorMfYd
import Derived.Test.YtofkfafdodhmdaaGreatDoorMfSa
import Derived.Test.YtofkfafdodhmdaaGreatDoorNG
import Derived.Test.YtofkfafdodhmdaaGreatDoorMfXa
import Derived.Test.YtofkfafdodhmdaaGreatDoorNS
namespace Go.Proofs.YtofkfafdodhmdaaGreatDoor
open Go.RowKit

structure Sv (w1 W : World) (db mb B2 rb : Nat) (z : Int) (jo jr : Nat) (fs : List Fl) (po : PV) (F : Nat → Prop) (pr : PV) : Prop where
  al : Al w1 W db mb z jo fs po
  rd : Rd9 W B2 rb z jr F pr
  ap : ∀ k, Ft db mb fs k → ¬ F k
  lo : w1.heap.size ≤ B2
section
variable {w1 W W2 : World} {db mb B2 rb jo jr jo2 jr2 : Nat} {z : Int} {fs fs2 : List Fl} {po pr po2 pr2 : PV} {F F2 : Nat → Prop}
theorem Sv.below (h : Sv w1 W db mb B2 rb z jo jr fs po F pr) (hb : Below W.heap.size W W2) : Sv w1 W2 db mb B2 rb z jo jr fs po F pr := ⟨h.al.below hb, h.rd.below hb, h.ap, h.lo⟩
theorem Sv.upto (h : Sv w1 W db mb B2 rb z jo jr fs po F pr) (h1 : jo ≤ jo2) (h2 : jr ≤ jr2) : Sv w1 W db mb B2 rb z jo2 jr2 fs po F pr := ⟨h.al.upto h1, h.rd.upto h2, h.ap, h.lo⟩
theorem Sv.ours (h : Sv w1 W db mb B2 rb z jo jr fs po F pr) (hs : Sd W2 w1.heap.size db mb z jo2 fs2 po2) (hm : Mv W W2 db mb fs fs2) : Sv w1 W2 db mb B2 rb z jo2 jr fs2 po2 F pr :=
  ⟨h.al.go hs hm, h.rd.chg hm.ch fun _ q r => h.ap _ r q, fun k q r => (hm.sub k q).elim (fun q2 => h.ap k q2 r) fun q2 => absurd (h.rd.lt r).2 (Nat.not_lt.2 q2), h.lo⟩
theorem Sv.doc (h : Sv w1 W db mb B2 rb z jo jr fs po F pr) (hr : Rd9 W2 B2 rb z jr2 F2 pr2) (hm : Mr W W2 F F2) : Sv w1 W2 db mb B2 rb z jo jr2 fs po F2 pr2 :=
  ⟨⟨⟨h.al.sd.v, h.al.sd.dk.keep fun k q => hm.ch.block k (h.al.sd.lt q).2 (h.ap k q), h.al.sd.good⟩, h.al.be.trans (hm.ch.below (fun _ q => Nat.le_trans h.lo (h.rd.lt q).1) h.al.be.size)⟩, hr, fun k q r => (hm.sub k r).elim (h.ap k q) fun q2 => absurd (h.al.sd.lt q).2 (Nat.not_lt.2 q2), h.lo⟩
theorem SlI.chg9 {w w3 : World} {v : Value} {zs : List Int} {S : Nat → Prop} (h : SlI w v zs) (hc : Chg S w w3) (hs : ∀ g, v.ownBlock = some g → ¬ S g) : SlI w3 v zs := by
  obtain ⟨A, c, rfl, h1, h2, h3, h4⟩ := h
  refine ⟨A, c, rfl, h1, h2, fun h0 => ?_, h4⟩
  obtain ⟨b, off, rfl, hh⟩ := h3 h0
  refine ⟨b, off, rfl, fun i hi => ?_⟩
  rw [World.cell?_of_block (w := w) (hc.block b (hh.lt h0) (hs b rfl))]
  exact hh i hi
end
/-- A crash under way: ours has done it. -/
structure SvC (w1 W : World) (db mb B2 rb : Nat) (z : Int) (jo jr : Nat) (fs : List Fl) (p3 : PV) (F : Nat → Prop) (p : PV) (K : Int) : Prop where
  sv : Sv w1 W db mb B2 rb z jo jr fs p3 F p
  cr : ∃ fv lv ms ps lt nx, RdG W B2 rb fv lv ms ps lt z p.2 nx ∧ ps.map Prod.fst = p.1 ∧ F = Rt rb fv lv ms ∧ nx ≤ jr ∧ (crPs ps lt K.toNat).map Prod.fst = p3.1
  u : p3.2 = p.2
theorem crash_same9 {W : World} {B rb nx u : Nat} {fv lv : Value} {ms : List Rm} {ps : Ps} {lt : List Lz} {z : Int} {fs : List Fl} (h : RdG W B rb fv lv ms ps lt z u nx) (hap : fs.Pairwise Fl.apart) (hv : viewF fs = ps.map Prod.fst) {l : List Pc} (hpm : l.Perm (allP fs)) (hso : l.Pairwise fun x y => x.2.1 ≤ y.2.1) (K : Int) : (crPs ps lt K.toNat).map Prod.fst = viewF (crF fs l K) := by
  obtain ⟨qs, e1, e2⟩ := qs_of hv
  have ha := h.ag
  subst e1 e2
  exact cr_view ha hap hpm hso K
theorem crash_ours {w1 W : World} {db mb B2 rb j : Nat} {z : Int} {fs : List Fl} {p : PV} {F : Nat → Prop} {a c : Nat} (h : Sv w1 W db mb B2 rb z j j fs p F p) (hj : j ≤ 990) (hz : 0 ≤ z ∧ z ≤ 16777216) (hd : Bd p.1 a c) (K : Int) (h1 : -9223372036854775808 ≤ K) (h2 : K < 9223372036854775808) :
    Calls Tryz.prog 26 #[.pointer (some ⟨db, 0, none⟩), .int .i64 K] W fun e w' => ∃ fs3 p3, e = .returned (.tuple #[]) ∧ Hid (SvC w1 w' db mb B2 rb z (j + 1) j fs3 p3 F p K ∧ Bd p3.1 a c) := by
  obtain ⟨vs, u⟩ := p
  obtain rfl : viewF fs = vs := h.al.sd.v
  refine (crash_do ⟨4, ⟨#[]⟩, ⟨#[]⟩, .int .i64 0, [], K⟩ ⟨by show (0 : Nat) ≤ _; omega, by show (0 : Nat) ≤ _; omega, h1, h2⟩ rfl h.al.sd.dk h.al.sd.good (by omega) hz).mono ?_
  rintro e w' ⟨rfl, fs', u', hE⟩
  refine ⟨fs', (viewF fs', u), rfl, ?_⟩
  rcases hE.did with ⟨h0, _⟩ | ⟨h0, _⟩ | ⟨h0, _⟩ | ⟨h0, _⟩ | ⟨h0, _⟩ | ⟨_, _, eu, l, h3, h4, e5⟩ | ⟨h0, _⟩
  rotate_left 5
  · have hdk := hE.dk
    have hgo := hE.good
    rw [eu] at hdk hgo
    have hSv : Sv w1 w' db mb B2 rb z (j + 1) j fs' (viewF fs', u) F (viewF fs, u) := h.ours ⟨rfl, hdk, hgo⟩ ⟨hE.ch, hE.sub⟩
    refine ⟨⟨hSv, ?_, rfl⟩, ?_⟩
    · obtain ⟨fv, lv, ms, ps, lt, nx, k1, k2, k3, k4⟩ := h.rd.ex
      refine ⟨fv, lv, ms, ps, lt, nx, k1.chg hE.ch fun q r s => h.ap q s (k3 ▸ r), k2, k3, k4, ?_⟩
      have := crash_same9 k1 h.al.sd.dk.ap k2.symm h3 h4 K
      rw [this, e5]
      rfl
    · rw [show viewF fs' = viewF (((fs.map (mF l K)).filter keepB).map cutF) by rw [e5]]
      exact hd.crash
  all_goals (dsimp only at h0; omega)
theorem crash_docs {w1 W : World} {db mb B2 rb j : Nat} {z : Int} {fs : List Fl} {p p3 : PV} {F : Nat → Prop} {K : Int} (h : SvC w1 W db mb B2 rb z (j + 1) j fs p3 F p K) (hj : j ≤ 990) (hs : sizeV p.1 ≤ 90000) (h1 : -9223372036854775808 ≤ K) (h2 : K < 9223372036854775808) :
    Calls Tryz.prog 27 #[.pointer (some ⟨rb, 0, none⟩), .int .i64 K] W fun e w' => ∃ F3, e = .returned (.tuple #[]) ∧ Hid (Sv w1 w' db mb B2 rb z (j + 1) (j + 1) fs p3 F3 p3) := by
  obtain ⟨fv, lv, ms, ps, lt, nx, k1, k2, k3, k4, k5⟩ := h.cr
  have hg := h.sv.rd.good
  have hg3 := h.sv.al.sd.good
  have hu := h.u
  have hsv := h.sv
  obtain ⟨vs, u⟩ := p
  obtain ⟨vs3, u3⟩ := p3
  dsimp only at k1 k2 k5 hg hs hu hg3
  subst hu k2 k3
  refine (rd_crash k1 hg (by omega) K h1 h2 hs).mono ?_
  rintro e w' ⟨rfl, fv1, ms1, g1, g2, g3⟩
  refine ⟨_, rfl, hsv.doc ⟨⟨fv1, _, ms1, _, _, nx, g1, k5, rfl, by omega⟩, hg3⟩ ⟨g2, g3⟩⟩
end Go.Proofs.YtofkfafdodhmdaaGreatDoor
