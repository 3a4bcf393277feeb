/- joistlaw05.StoreCalls. Conditions: the slice holds its calls. -/
import Derived.Test.YtofkfafdodhmdaaMC
import Derived.Test.YtofkfafdodhmdaaStV
import Derived.Deep.QuietTactic
import Derived.BigQuiet
import Derived.Deep.CutBlock
import Derived.Deep.DeepCutAuto
namespace Go.Proofs.Ytofkfafdodhmdaa
open Go.RowKit

/-- Both disks behind k calls. -/
structure ScS (w W : World) (B db mb rb : Nat) (fv lv : Value) (fs : List Fl) (ms : List Rm) (ps : Ps) (lt : List Lz) (z : Int) (u nx k n : Nat) : Prop where
  lp : LpS w W B db mb fs z u k n
  rd : RdG W B rb fv lv ms ps lt z u nx
  vw : viewF fs = ps.map Prod.fst
  ap : ∀ q, Ft db mb fs q → ¬ Rt rb fv lv ms q
  nx : nx ≤ k
theorem ScS.below {w W W' : World} {B db mb rb : Nat} {fv lv : Value} {fs : List Fl} {ms : List Rm} {ps : Ps} {lt : List Lz} {z : Int} {u nx k n : Nat} (h : ScS w W B db mb rb fv lv fs ms ps lt z u nx k n) (hb : Below W.heap.size W W') : ScS w W' B db mb rb fv lv fs ms ps lt z u nx k n :=
  ⟨h.lp.below hb, h.rd.below hb, h.vw, h.ap, h.nx⟩
theorem ScS.gd {w W : World} {B db mb rb : Nat} {fv lv : Value} {fs : List Fl} {ms : List Rm} {ps : Ps} {lt : List Lz} {z : Int} {u nx k n : Nat} (h : ScS w W B db mb rb fv lv fs ms ps lt z u nx k n) : GoodV (ps.map Prod.fst) z u k := by
  rw [← h.vw]
  exact h.lp.lw.gd
theorem ScS.sz {w W : World} {B db mb rb : Nat} {fv lv : Value} {fs : List Fl} {ms : List Rm} {ps : Ps} {lt : List Lz} {z : Int} {u nx k n : Nat} (h : ScS w W B db mb rb fv lv fs ms ps lt z u nx k n) : sizeV (ps.map Prod.fst) = sizeF fs := by
  rw [← h.vw, view_size]
/-- Ours has done its call. -/
structure ScM (w W : World) (B db mb rb : Nat) (fv lv : Value) (c : Cl) (q : Int) (fs fs' : List Fl) (ms : List Rm) (ps : Ps) (lt : List Lz) (z : Int) (u u' nx k n : Nat) : Prop where
  lp : LpS w W B db mb fs' z u' (k + 1) n
  rd : RdG W B rb fv lv ms ps lt z u nx
  vw : viewF fs = ps.map Prod.fst
  fap : fs.Pairwise Fl.apart
  did : Did c q z fs u fs' u'
  ap : ∀ q, Ft db mb fs' q → ¬ Rt rb fv lv ms q
  gd : GoodV (ps.map Prod.fst) z u k
  sz : sizeV (ps.map Prod.fst) ≤ n
  nx : nx ≤ k
theorem sc_mid {w W W1 : World} {B db mb rb : Nat} {fv lv : Value} {c : Cl} {q : Int} {fs fs' : List Fl} {ms : List Rm} {ps : Ps} {lt : List Lz} {z : Int} {u u' nx k n : Nat} (h : ScS w W B db mb rb fv lv fs ms ps lt z u nx k n) (hE : DoE W W1 B db mb z k c q fs u fs' u') (hl : LpS w W1 B db mb fs' z u' (k + 1) (n + c.d.length)) :
    ScM w W1 B db mb rb fv lv c q fs fs' ms ps lt z u u' nx k (n + c.d.length) :=
  ⟨hl, h.rd.chg hE.ch fun a r f => h.ap a f r, h.vw, h.lp.lw.dk.ap, hE.did, fun a f r => by
    rcases hE.sub a f with f2 | f2
    · exact h.ap a f2 r
    · exact absurd (h.rd.rk.rt r).2 (Nat.not_lt.2 f2), h.gd, by rw [h.sz]; exact Nat.le_trans h.lp.sz (Nat.le_add_right _ _), h.nx⟩
theorem lps_other {w W W' : World} {B db mb : Nat} {fs : List Fl} {z : Int} {u k n : Nat} {S : Nat → Prop} (h : LpS w W B db mb fs z u k n) (hc : Chg S W W') (hs : ∀ q, Ft db mb fs q → ¬ S q) (hlo : ∀ q, S q → w.heap.size ≤ q) : LpS w W' B db mb fs z u k n :=
  ⟨⟨h.lw.dk.keep fun q r => hc.block q (h.lw.dk.ft r).2 (hs q r), h.lw.gd, h.lw.b.trans (hc.below hlo h.lw.b.size), h.lw.lo⟩, h.sz⟩
theorem sc_ref {w W W' : World} {B db mb rb : Nat} {fv lv fv' lv' : Value} {c : Cl} {q : Int} {fs fs' : List Fl} {ms ms' : List Rm} {ps ps' : Ps} {lt lt' : List Lz} {z : Int} {u u' nx nx' k n : Nat} (h : ScM w W B db mb rb fv lv c q fs fs' ms ps lt z u u' nx k n) (hg : RdG W' B rb fv' lv' ms' ps' lt' z u' nx') (hch : Chg (Rt rb fv lv ms) W W') (hsub : ∀ a, Rt rb fv' lv' ms' a → Rt rb fv lv ms a ∨ W.heap.size ≤ a) (hv : viewF fs' = ps'.map Prod.fst) (hn : nx' ≤ nx + 1) : ScS w W' B db mb rb fv' lv' fs' ms' ps' lt' z u' nx' (k + 1) n :=
  ⟨lps_other h.lp hch h.ap fun a r => Nat.le_trans h.lp.lw.lo (h.rd.rk.rt r).1, hg, hv, fun a f r => by
    rcases hsub a r with r2 | r2
    · exact h.ap a f r2
    · exact absurd (h.lp.lw.dk.ft f).2 (Nat.not_lt.2 r2), by have := h.nx; omega⟩
theorem sc_end {w W W' : World} {B db mb rb : Nat} {fv lv fv' lv' : Value} {c c2 : Cl} {q q2 : Int} {fs fs' : List Fl} {ms ms' : List Rm} {ps ps' : Ps} {lt lt' : List Lz} {z : Int} {u u' u2 nx nx' k n : Nat} (h : ScM w W B db mb rb fv lv c q fs fs' ms ps lt z u u' nx k n) (hE : RdE W W' B rb fv lv ms c2 q2 z ps u nx fv' lv' ms' ps' lt' u2 nx') (hcc : c2.wh = c.wh ∧ c2.nm = c.nm ∧ c2.tg = c.tg ∧ c2.d = c.d) (hw : 0 ≤ c.wh ∧ c.wh ≤ 3) : q2 = q ∧ ScS w W' B db mb rb fv' lv' fs' ms' ps' lt' z u' nx' (k + 1) n := by
  have hd := hE.did
  rw [← h.vw] at hd
  have hd2 : RDid c q2 z (viewF fs) u (ps'.map Prod.fst) u2 := by
    obtain ⟨f1, f2, f3, f4⟩ := hcc
    unfold RDid at hd ⊢
    rw [f1, f2, f3, f4] at hd
    exact hd
  obtain ⟨e1, e2, e3⟩ := did_same hw h.did hd2
  have hg := hE.g
  rw [e3] at hg
  exact ⟨e1, sc_ref h hg hE.ch hE.sub e2.symm hE.nx⟩
/-- Both disks behind a crash. -/
theorem sc_crash {w W W' : World} {B db mb rb : Nat} {fv lv fv' : Value} {c : Cl} {q : Int} {fs fs' : List Fl} {ms ms' : List Rm} {ps : Ps} {lt : List Lz} {z : Int} {u u' nx k n : Nat} (h : ScM w W B db mb rb fv lv c q fs fs' ms ps lt z u u' nx k n) (hw : c.wh = 4) (hg : RdG W' B rb fv' (.slice none 0 0) ms' (crPs ps lt c.n.toNat) [] z u nx) (hch : Chg (Rt rb fv lv ms) W W') (hsub : ∀ a, Rt rb fv' (.slice none 0 0) ms' a → Rt rb fv lv ms a ∨ W.heap.size ≤ a) : q = 0 ∧ ScS w W' B db mb rb fv' (.slice none 0 0) fs' ms' (crPs ps lt c.n.toNat) [] z u' nx (k + 1) n := by
  have hd : q = 0 ∧ u' = u ∧ ∃ l : List Pc, l.Perm (allP fs) ∧ l.Pairwise (fun x y => x.2.1 ≤ y.2.1) ∧ fs' = crF fs l c.n := by
    rcases h.did with ⟨e, _⟩ | ⟨e, _⟩ | ⟨e, _⟩ | ⟨e, _⟩ | ⟨e, _⟩ | ⟨_, e1, e2, l, h1, h2, h3⟩ | ⟨e, _⟩
    · omega
    · omega
    · omega
    · omega
    · omega
    · exact ⟨e1, e2, l, h1, h2, h3⟩
    · omega
  obtain ⟨e1, e2, l, h1, h2, h3⟩ := hd
  refine ⟨e1, sc_ref h (by rw [e2]; exact hg) hch hsub ?_ (Nat.le_succ _)⟩
  obtain ⟨qs, e4, e5⟩ := qs_of h.vw
  have ha := h.rd.ag
  have hf := h.fap
  subst e4 e5
  rw [h3]
  exact (cr_view ha hf h1 h2 c.n).symm
/-- No call. -/
theorem sc_none {w W : World} {B db mb rb : Nat} {fv lv : Value} {c : Cl} {q : Int} {fs fs' : List Fl} {ms : List Rm} {ps : Ps} {lt : List Lz} {z : Int} {u u' nx k n : Nat} (h : ScM w W B db mb rb fv lv c q fs fs' ms ps lt z u u' nx k n) (hw : c.wh < 0 ∨ 4 < c.wh) : q = 0 ∧ ScS w W B db mb rb fv lv fs' ms ps lt z u' nx (k + 1) n := by
  have hd : q = 0 ∧ fs' = fs ∧ u' = u := by
    rcases h.did with ⟨e, _⟩ | ⟨e, _⟩ | ⟨e, _⟩ | ⟨e, _⟩ | ⟨e, _⟩ | ⟨e, _⟩ | ⟨_, e⟩
    · omega
    · omega
    · omega
    · omega
    · omega
    · omega
    · exact e
  obtain ⟨e1, e2, e3⟩ := hd
  subst e2 e3
  exact ⟨e1, h.lp, h.rd, h.vw, h.ap, by have := h.nx; omega⟩
/-- The two copies of a call. -/
structure OwC (M : Nat) (W : World) (b1 b2 : Nat) (x : Cl) (v : Value) : Prop where
  lo : M ≤ b1 ∧ M ≤ b2
  c1 : Blk W b1 34 #[.int .i64 x.wh, .string x.nm, .string x.tg, x.dv, .int .i64 x.n]
  c2 : Blk W b2 34 #[.int .i64 x.wh, .string x.nm, .string x.tg, v, .int .i64 x.n]
  rw : Row W M v x.d
theorem OwC.keep {M : Nat} {W W' : World} {b1 b2 : Nat} {x : Cl} {v : Value} (h : OwC M W b1 b2 x v) (hk : ∀ k, M ≤ k → k < W.heap.size → W'.heap[k]? = W.heap[k]?) : OwC M W' b1 b2 x v :=
  ⟨h.lo, (hk _ h.lo.1 h.c1.lt).trans h.c1, (hk _ h.lo.2 h.c2.lt).trans h.c2, own_block0 h.rw fun g q => hk g (World.ownsRow.lt h.rw g q).1 (World.ownsRow.lt h.rw g q).2⟩
theorem OwC.chg {M : Nat} {W W' : World} {b1 b2 : Nat} {x : Cl} {v : Value} {S : Nat → Prop} (h : OwC M W b1 b2 x v) (hc : Chg S W W') (hs : ∀ k, S k → k < M) : OwC M W' b1 b2 x v :=
  h.keep fun k h1 h2 => hc.block k h2 fun s => absurd (hs k s) (Nat.not_lt.2 h1)
theorem OwC.below {M : Nat} {W W' : World} {b1 b2 : Nat} {x : Cl} {v : Value} (h : OwC M W b1 b2 x v) (hb : Below W.heap.size W W') : OwC M W' b1 b2 x v := h.keep fun k _ h2 => hb.block k h2
/-- Behind the second call. -/
structure SwS (w W : World) (B db mb rb : Nat) (fv lv : Value) (fs : List Fl) (ms : List Rm) (ps : Ps) (lt : List Lz) (z : Int) (u nx k n : Nat) (b1 b2 : Nat) (x : Cl) (v : Value) : Prop where
  sc : ScS w W B db mb rb fv lv fs ms ps lt z u nx k n
  ow : OwC b1 W b1 b2 x v
  ap : ∀ g, v.ownBlock = some g → b1 ≤ g ∧ ¬ Ft db mb fs g ∧ ¬ Rt rb fv lv ms g
theorem sw_rt {M g N : Nat} {rb : Nat} {fv lv fv' lv' : Value} {ms ms' : List Rm} {F : Prop} (hg : M ≤ g ∧ g < N ∧ F) (hr : ∀ q, Rt rb fv lv ms q → q < M) (hs : ∀ a, Rt rb fv' lv' ms' a → Rt rb fv lv ms a ∨ N ≤ a) : ¬ Rt rb fv' lv' ms' g := fun h => by
  rcases hs g h with r | r
  · exact absurd (hr g r) (Nat.not_lt.2 hg.1)
  · exact absurd hg.2.1 (Nat.not_lt.2 r)
theorem sw_vb {w W : World} {B rb nx u : Nat} {fv lv v : Value} {ms : List Rm} {ps : Ps} {lt : List Lz} {z : Int} {l : List UInt8} (h : SlA w v l) (hd : RdG W B rb fv lv ms ps lt z u nx) (hlo : w.heap.size ≤ B) : 0 < l.length → ∀ k, v.ownBlock = some k → ¬ Rt rb fv lv ms k := fun h0 k e r => by
  rcases sla_lt h k e with q | q
  · omega
  · have := (hd.rk.rt r).1
    omega
/-- While own bytes are turned. -/
structure XoS (w W : World) (B db mb rb : Nat) (fv lv : Value) (fs : List Fl) (ms : List Rm) (ps : Ps) (lt : List Lz) (z : Int) (u nx k n M : Nat) (A : Option Addr) (nd q : Nat) : Prop where
  sc : ScS w W B db mb rb fv lv fs ms ps lt z u nx k n
  c3 : W.cell? ⟨M + 1, 3, none⟩ = some (.slice A nd q)
  el : ∀ i, i < nd → ∃ g y, A = some ⟨g, 0, none⟩ ∧ (w.heap.size ≤ g ∧ g ≠ M + 1 ∧ ¬ Ft db mb fs g ∧ ¬ Rt rb fv lv ms g) ∧ W.cell? ⟨g, i, none⟩ = some (.int .u8 y) ∧ W.frozen? ⟨g, i, none⟩ = false
theorem XoS.below {w W W' : World} {B db mb rb : Nat} {fv lv : Value} {fs : List Fl} {ms : List Rm} {ps : Ps} {lt : List Lz} {z : Int} {u nx k n M : Nat} {A : Option Addr} {nd q : Nat} (h : XoS w W B db mb rb fv lv fs ms ps lt z u nx k n M A nd q) (hb : Below W.heap.size W W') : XoS w W' B db mb rb fv lv fs ms ps lt z u nx k n M A nd q :=
  ⟨h.sc.below hb, (hb.cell (p := ⟨M + 1, 3, none⟩) (cell_lt h.c3)).trans h.c3, fun i hi => by
    obtain ⟨g, y, e, hg, hc, hf⟩ := h.el i hi
    exact ⟨g, y, e, hg, (hb.cell (p := ⟨g, i, none⟩) (cell_lt hc)).trans hc, (hb.frozen (p := ⟨g, i, none⟩) (cell_lt hc)).trans hf⟩⟩
theorem XoS.set {w W : World} {B db mb rb : Nat} {fv lv : Value} {fs : List Fl} {ms : List Rm} {ps : Ps} {lt : List Lz} {z : Int} {u nx k n M : Nat} {g nd q : Nat} (h : XoS w W B db mb rb fv lv fs ms ps lt z u nx k n M (some ⟨g, 0, none⟩) nd q) (hg : w.heap.size ≤ g ∧ g ≠ M + 1 ∧ ¬ Ft db mb fs g ∧ ¬ Rt rb fv lv ms g) (j : Nat) (y : Int) : XoS w (W.setCell ⟨g, j, none⟩ (.int .u8 y)) B db mb rb fv lv fs ms ps lt z u nx k n M (some ⟨g, 0, none⟩) nd q := by
  have hc : Chg (fun a => a = g) W (W.setCell ⟨g, j, none⟩ (.int .u8 y)) := Chg.of_set W g j _ rfl
  refine ⟨⟨lps_other h.sc.lp hc (fun a f e => hg.2.2.1 (e ▸ f)) (fun a e => by rw [e]; exact hg.1), h.sc.rd.chg hc (fun a r e => hg.2.2.2 (e ▸ r)), h.sc.vw, h.sc.ap, h.sc.nx⟩, ?_, fun i hi => ?_⟩
  · exact (World.cell?_of_block (a := ⟨M + 1, 3, none⟩) (hc.block (M + 1) (cell_lt h.c3) fun e => hg.2.1 e.symm)).trans h.c3
  · obtain ⟨g', y', e, hg', hc', hf'⟩ := h.el i hi
    injection e with e
    injection e with e
    subst e
    by_cases hij : i = j
    · subst hij
      exact ⟨g, y, rfl, hg, by simp [World.cell?_setCell_same, hc'], by simpa using hf'⟩
    · exact ⟨g, y', rfl, hg, (World.cell?_setCell_other _ _ _ _ (fun e => by injection e with _ e2; exact hij e2.symm)).trans hc', by simpa using hf'⟩
theorem xos_start {w W : World} {B db mb rb : Nat} {fv lv : Value} {fs : List Fl} {ms : List Rm} {ps : Ps} {lt : List Lz} {z : Int} {u nx k n M : Nat} {x : Cl} {A : Option Addr} {nd q : Nat} (h : SwS w W B db mb rb fv lv fs ms ps lt z u nx k n M (M + 1) x (.slice A nd q)) (hd : x.d.length = nd) (hw : w.heap.size ≤ M) : XoS w W B db mb rb fv lv fs ms ps lt z u nx k n M A nd q := by
  refine ⟨h.sc, h.ow.c2.cell 3, fun i hi => ?_⟩
  obtain ⟨g, cap, e, h1, h2, h3, h4⟩ := h.ow.rw.form (by omega)
  injection e with e1 e2 e3
  obtain ⟨cur, hcu⟩ := own_blk h.ow.rw (g := g) (by rw [e1]; rfl)
  obtain ⟨a1, a2, a3⟩ := h.ap g (by rw [e1]; rfl)
  exact ⟨g, _, e1, ⟨Nat.le_trans hw a1, blk_ne0 hcu h.ow.c2 (by decide), a2, a3⟩, h4 i (by omega), hcu.free i⟩
theorem loose_le2 (fs : List Fl) : looseF fs ≤ sizeF fs := by
  unfold looseF sizeF
  induction fs with
  | nil => exact Nat.le_refl _
  | cons a t ih => simp only [List.map_cons, List.sum_cons]; omega
theorem view_n (fs : List Fl) : (viewF fs).map Fv.n = fs.map Fl.n := by unfold viewF; rw [List.map_map]; rfl
abbrev L35 (w9 : World) (rb : Nat) (v : Value) (W : World) : Prop := Hid (Below w9.heap.size w9 W) ∧ W.cell? ⟨rb, 1, none⟩ = some v
theorem l35_b {w9 W : World} {rb : Nat} {v : Value} (h : L35 w9 rb v W) : Below w9.heap.size w9 W := h.1.out
theorem l35_below {w9 W W' : World} {rb : Nat} {v : Value} (h : L35 w9 rb v W) (hb : Below W.heap.size W W') : L35 w9 rb v W' := ⟨h.1.out.trans (hb.mono h.1.out.size), (hb.cell (p := ⟨rb, 1, none⟩) (cell_lt h.2)).trans h.2⟩
theorem sla_low {w W W' : World} {v : Value} {l : List UInt8} {S : Nat → Prop} (h : SlA w v l) (hc : Chg S W W') (hb : Below w.heap.size w W) (hs : ∀ k, S k → w.heap.size ≤ k) : SlA W' v l := by
  obtain ⟨A, c, e, h2, h3, h4, h5⟩ := h
  refine ⟨A, c, e, h2, h3, fun h0 => ?_, h5⟩
  obtain ⟨b, off, e2, hh⟩ := h4 h0
  refine ⟨b, off, e2, fun i hi => ?_⟩
  have hlt := hh.lt h0
  rw [World.cell?_of_block ((hc.block b (Nat.lt_of_lt_of_le hlt hb.size) fun q => absurd (hs b q) (Nat.not_le.2 hlt)).trans (hb.block b hlt))]
  exact hh i hi

set_option maxRecDepth 100000 in
set_option maxHeartbeats 32000000 in
theorem calls_ok (z : Int) (v : Value) (cs : List Cl) (hnz : ∀ c ∈ cs, c.nm.size ≤ maxLen ∧ c.tg.size ≤ maxLen ∧ c.d.length ≤ 4611686018427387904) (hn : ∀ c ∈ cs, -9223372036854775808 ≤ c.n ∧ c.n < 9223372036854775808) (hz : -9223372036854775808 ≤ z ∧ z < 9223372036854775808) (w : World) (h : CArg w v cs) :
    Calls Try.prog 3 #[.int .i64 z, v] w fun e w' => e = .returned (.bool true) ∧ Below w.heap.size w w' := by
  have HAl := hid (alive_ok w)
  have HGr := hid fun W (hW : Below w.heap.size w W) => great_ok v cs hnz W (h.below hW)
  have HNn := hid hn
  clear hnz hn
  by_cases hs : SmallP cs
  · have HS := hid hs
    by_cases hr : 0 ≤ z ∧ z ≤ 16777216
    · obtain ⟨A, c, rfl, hl, hh⟩ := h
      have HH := hid hh
      obtain ⟨n, hn⟩ : ∃ n, cs.length = n := ⟨_, rfl⟩
      have HN := hid hn
      rw [hn] at hl HGr ⊢
      have hn80 : n ≤ 80 := by rw [← hn]; exact hs.len
      obtain ⟨hr1, hr2⟩ := hr
      clear hn hh hs hz
      go_enter Try.func3, Try.ntmps3
      go_upto_region 3 with (go_at_call 7; refine HAl.out.mono ?_; rintro e w1 ⟨rfl, hb⟩; have B1 := hid hb; clear hb)
      go_upto_region 5 with (go_at_call 8; refine (HGr.out _ B1.out).mono ?_; intro e w2 hg; obtain ⟨he, hb⟩ := gr_yes hg HS.out; subst he; have B2 := hid (B1.out.trans (hb.mono B1.out.size)); clear hb hg)
      go_upto_region 6 with (go_at_call 9; refine (new_yes z hr1 hr2 _).mono ?_; rintro e w3 ⟨rfl, hd, hb⟩; have HA0 : Hid (LpS w w3 w2.heap.size (w2.heap.size + 1) w2.heap.size [] z 0 0 0) := ⟨lws_start B2.out hr1 hd hb, Nat.le_refl _⟩; have HZ3 := hid hb.size; clear hd hb)
      obtain ⟨B, hB⟩ : ∃ B, w2.heap.size = B := ⟨_, rfl⟩
      obtain ⟨db, hdb⟩ : ∃ db, w2.heap.size + 1 = db := ⟨_, rfl⟩
      obtain ⟨mb, hmb⟩ : ∃ mb, mb = w2.heap.size := ⟨_, rfl⟩
      have HA1 : Hid (LpS w w3 B db mb [] z 0 0 0) := by rw [← hB, ← hdb, hmb]; exact HA0
      have HZ4 : Hid (B ≤ w3.heap.size) := by rw [← hB]; exact HZ3.out
      rw [hdb]
      clear HA0 HZ3 hB hdb hmb HGr HAl B1 B2
      go_upto_region 7 with (go_at_call 10; refine (rnew_yes z hr1 hr2 _).mono ?_; rintro e w4 ⟨rfl, hd, hb⟩; have HA0 : Hid (ScS w w4 B db mb w3.heap.size (.slice none 0 0) (.slice none 0 0) [] [] [] [] z 0 0 0 0) := ⟨HA1.out.below hb, ⟨⟨HZ4.out, hd.blk, own_low hd.fr HZ4.out, own_low hd.lr HZ4.out, (fun m hm => by cases hm), List.Pairwise.nil⟩, ag_nil, rfl⟩, rfl, fun a f r => (by rcases r with r | r | r | ⟨m, hm, _⟩; (rw [r] at f; exact absurd (HA1.out.lw.dk.ft f).2 (Nat.lt_irrefl _)); (cases r); (cases r); (cases hm)), Nat.le_refl _⟩; clear hd hb)
      obtain ⟨rb, hrb⟩ : ∃ rb, w3.heap.size = rb := ⟨_, rfl⟩
      rw [hrb] at HA0 ⊢
      have HA := hid HA0.out
      clear HA0 HA1 HZ4 hrb
      go_wp2
      go_loopw [9] (fun vi wr => ∃ (k : Nat) (fv lv : Value) (fs : List Fl) (ms : List Rm) (ps : Ps) (lt : List Lz) (u nx : Nat), vi = .int .i64 (k : Int) ∧ k ≤ n ∧ Hid (ScS w wr B db mb rb fv lv fs ms ps lt z u nx k (datN (cs.take k)))) (fun vi _ => n - (intOf vi).toNat)
      case atStart => exact ⟨0, _, _, [], [], [], [], 0, 0, rfl, Nat.zero_le _, HA.out⟩
      case round =>
        obtain ⟨k, fv, lv, fs, ms, ps, lt, u, nx, rfl, hk, HL⟩ := hrel
        by_cases hkn : k < n
        · have hkl : k < cs.length := by rw [HN.out]; exact hkn
          obtain ⟨b, o, rfl, hc⟩ := HH.out k hkl
          have hcw := hc.below HL.out.lp.lw.b
          have hok := HS.out.each k hkl
          have hdt := datN_take hkl
          have hnn := HNn.out cs[k] (List.getElem_mem hkl)
          have hd3 := dat_small HS.out (k + 1) hkl
          obtain ⟨x, hx⟩ : ∃ x, cs[k] = x := ⟨_, rfl⟩
          rw [hx] at hcw hok hdt hnn hc
          have HO : Hid (x.ok) := ⟨by have := hok.2.1; omega, by have := hok.2.2; omega, hnn.1, hnn.2⟩
          have hxd : x.d.length ≤ 3000 := by omega
          have c0 := hcw.c0
          have c1 := hcw.c1
          have c2 := hcw.c2
          have c3 := hcw.c3
          have c4 := hcw.c4
          have HSx := hid hc.sl
          obtain ⟨Ad, cd, ed, _⟩ := hcw.sl
          obtain ⟨wh, nm, tg, dv, d, nn⟩ := x
          dsimp only at c0 c1 c2 c3 c4 ed HSx hxd
          obtain ⟨nd, hnd⟩ : ∃ nd, d.length = nd := ⟨_, rfl⟩
          rw [hnd] at ed
          rw [ed] at c3 HO HSx hdt
          rw [hnd] at hxd
          have HD := hid hdt
          have HD3 := hid hd3
          have HNd := hid hnd
          clear hc hcw hok hdt hnn hx ed hnd hkl hd3
          go_upto_region 14 with (fail)
          obtain ⟨W2, hW2⟩ : ∃ W2, (wr.alloc (.cells #[.int .i64 wh, .string nm, .string tg, .slice Ad nd cd, .int .i64 nn] 34)).alloc (.cells #[.int .i64 wh, .string nm, .string tg, .slice Ad nd cd, .int .i64 nn] 34) = W2 := ⟨_, rfl⟩
          obtain ⟨M, hM⟩ : ∃ M, wr.heap.size = M := ⟨_, rfl⟩
          have HB2 : Hid (Below wr.heap.size wr W2) := by rw [← hW2]; exact (below_new wr _).trans ((below_new _ _).mono (by simp))
          have HC1 : Hid (Blk W2 M 34 #[.int .i64 wh, .string nm, .string tg, .slice Ad nd cd, .int .i64 nn]) := by rw [← hW2, ← hM]; exact (Blk.new wr _ _).keep (below_new _ _) (by simp)
          have HC2 : Hid (Blk W2 (M + 1) 34 #[.int .i64 wh, .string nm, .string tg, .slice Ad nd cd, .int .i64 nn]) := by rw [← hW2, ← hM]; have := Blk.new (wr.alloc (.cells #[.int .i64 wh, .string nm, .string tg, .slice Ad nd cd, .int .i64 nn] 34)) 34 #[.int .i64 wh, .string nm, .string tg, .slice Ad nd cd, .int .i64 nn]; rw [World.size_alloc] at this; exact this
          have HMe := hid hM
          rw [hW2, hM]
          have a3 := HC1.out.cell 3
          have HCp := hid (copyb_any (.slice Ad nd cd) d (by rw [HNd.out]; omega) W2 (HSx.out.below (HL.out.lp.lw.b.trans (HB2.out.mono HL.out.lp.lw.b.size))))
          clear hW2 hM c0 c1 c2 c3 c4
          have HwM : Hid (w.heap.size ≤ M) := by rw [← HMe.out]; exact HL.out.lp.lw.b.size
          have HFs : Hid (∀ q, Ft db mb fs q → q < M) := fun q hq => by have := (HL.out.lp.lw.dk.ft hq).2; rw [HMe.out] at this; exact this
          have HRs : Hid (∀ q, Rt rb fv lv ms q → q < M) := fun q hq => by have := (HL.out.rd.rk.rt hq).2; rw [HMe.out] at this; exact this
          go_upto_region 15 with (go_at_call 11; refine HCp.out.mono ?_; rintro e w3 ⟨v', rfl, hr, hb⟩; obtain ⟨A3, q3, rfl⟩ := row_form hr HNd.out; have HR3 := hid hr; have HB3 := hid hb; have y3 : w3.cell? ⟨M + 1, 3, none⟩ = some (.slice Ad nd cd) := (hb.cell (p := ⟨M + 1, 3, none⟩) HC2.out.lt).trans (HC2.out.cell 3); have f3 : w3.frozen? ⟨M + 1, 3, none⟩ = false := (hb.frozen (p := ⟨M + 1, 3, none⟩) HC2.out.lt).trans (HC2.out.free 3); clear hr hb)
          have HM2 : Hid (M + 1 < W2.heap.size) := HC2.out.lt
          have HOw : Hid (OwC M (w3.setCell ⟨M + 1, 3, none⟩ (.slice A3 nd q3)) M (M + 1) ⟨wh, nm, tg, .slice Ad nd cd, d, nn⟩ (.slice A3 nd q3)) := by
            have k1 : Blk w3 (M + 1) 34 #[.int .i64 wh, .string nm, .string tg, .slice Ad nd cd, .int .i64 nn] := HC2.out.keep HB3.out HC2.out.lt
            refine ⟨⟨Nat.le_refl _, Nat.le_succ _⟩, ?_, k1.set 3 _, ?_⟩
            · exact (Below.heap_setCell _ _ _ _ (show M ≠ M + 1 by omega)).trans (HC1.out.keep HB3.out HC1.out.lt)
            · refine row_low (N := W2.heap.size) ?_ (by have := HM2.out; omega)
              refine own_block0 HR3.out fun g q => Below.heap_setCell _ _ _ _ ?_
              have := (World.ownsRow.lt HR3.out g q).1
              have := HM2.out
              show g ≠ M + 1
              omega
          have HBw : Hid (Below wr.heap.size wr (w3.setCell ⟨M + 1, 3, none⟩ (.slice A3 nd q3))) := Below.setCell (HB2.out.trans (HB3.out.mono HB2.out.size)) (by rw [HMe.out]; exact Nat.le_succ _) _
          obtain ⟨W4, hW4⟩ : ∃ W4, w3.setCell ⟨M + 1, 3, none⟩ (.slice A3 nd q3) = W4 := ⟨_, rfl⟩
          rw [hW4] at HOw HBw ⊢
          have HL4 := hid (HL.out.below HBw.out)
          clear hW4 HC1 HC2 HCp a3 y3 f3 HR3 HB3 HB2 HM2
          have e0 := HOw.out.c2.cell 0
          have e1 := HOw.out.c2.cell 1
          have e2 := HOw.out.c2.cell 2
          have e3 := HOw.out.c2.cell 3
          have e4 := HOw.out.c2.cell 4
          have HDo := hid (lp_do HL4.out.lp (by omega) ⟨hr1, hr2⟩ ⟨wh, nm, tg, .slice A3 nd q3, d, nn⟩ ⟨HO.out.nm, HO.out.tg, HO.out.n1, HO.out.n2⟩ HOw.out.rw.sla)
          go_upto_region 16 with (go_at_call 12; refine HDo.out.mono ?_; rintro e w5 ⟨q, fs', u', rfl, hE, h1⟩; have HM5 := hid (sc_mid HL4.out hE h1); have HO5 := hid (HOw.out.chg hE.ch HFs.out); have HG5 : Hid (∀ g, (Value.slice A3 nd q3).ownBlock = some g → M ≤ g ∧ g < w5.heap.size ∧ ¬ Ft db mb fs' g) := (fun g hg => ⟨(World.ownsRow.lt HOw.out.rw g hg).1, Nat.lt_of_lt_of_le (World.ownsRow.lt HOw.out.rw g hg).2 hE.ch.size, fun hf => by rcases hE.sub g hf with r | r; (exact absurd (HFs.out g r) (Nat.not_lt.2 (World.ownsRow.lt HOw.out.rw g hg).1)); (exact absurd (World.ownsRow.lt HOw.out.rw g hg).2 (Nat.not_lt.2 r))⟩); clear hE h1)
          clear HDo HOw HL4 HBw e0 e1 e2 e3 e4
          rw [HNd.out] at HM5
          have HD5 : Hid (datN (cs.take (k + 1)) = datN (cs.take k) + nd) := HD.out.trans (congrArg (fun a => datN (cs.take k) + a) HNd.out)
          have a0 := HO5.out.c1.cell 0
          go_upto_block 2 with (fail)
          go_cut [13] (fun s13 wx => ∃ (fv' lv' : Value) (ms' : List Rm) (ps' : Ps) (lt' : List Lz) (nx' : Nat), s13 = .int .i64 q ∧ Hid (SwS w wx B db mb rb fv' lv' fs' ms' ps' lt' z u' nx' (k + 1) (datN (cs.take k) + nd) M (M + 1) ⟨wh, nm, tg, .slice Ad nd cd, d, nn⟩ (.slice A3 nd q3)))
          case first =>
            by_cases hq0 : wh = 0
            · subst hq0
              have HC := hid (rd_write HM5.out.rd HM5.out.gd (by omega) ⟨0, nm, tg, .slice Ad nd cd, d, nn⟩ ⟨HO.out.nm, HO.out.tg, HO.out.n1, HO.out.n2⟩ rfl (by have := HM5.out.sz; have := HD3.out; have := HD5.out; have := HNd.out; show _ + d.length ≤ _; omega) ⟨hr1, hr2⟩ (by have := HM5.out.nx; omega) (HSx.out.below HM5.out.lp.lw.b) (sw_vb HSx.out HM5.out.rd HM5.out.lp.lw.lo))
              have g1 := HO5.out.c1.cell 1
              have g2 := HO5.out.c1.cell 2
              have g3 := HO5.out.c1.cell 3
              dsimp only at HC
              go_wp2_with (go_at_call 13; refine HC.out.mono ?_; rintro e w6 ⟨q2, fv', lv', ms', ps', lt', u2, nx', rfl, hE⟩; obtain ⟨rfl, hS⟩ := sc_end HM5.out hE ⟨rfl, rfl, rfl, rfl⟩ (show (0 : Int) ≤ 0 ∧ (0 : Int) ≤ 3 by decide); have HR6 : Hid (SwS w w6 B db mb rb fv' lv' fs' ms' ps' lt' z u' nx' (k + 1) (datN (cs.take k) + nd) M (M + 1) ⟨0, nm, tg, .slice Ad nd cd, d, nn⟩ (.slice A3 nd q3)) := ⟨hS, HO5.out.chg hE.ch HRs.out, fun g hg => ⟨(HG5.out g hg).1, (HG5.out g hg).2.2, sw_rt (HG5.out g hg) HRs.out hE.sub⟩⟩; clear hE hS)
              go_meet
              exact ⟨_, _, _, _, _, _, rfl, HR6.out⟩
            by_cases hq1 : wh = 1
            · subst hq1
              have HC := hid (rd_sync HM5.out.rd HM5.out.gd (by omega) ⟨1, nm, tg, .slice Ad nd cd, d, nn⟩ ⟨HO.out.nm, HO.out.tg, HO.out.n1, HO.out.n2⟩ rfl (by have := HM5.out.sz; have := HD3.out; have := HD5.out; omega))
              have g1 := HO5.out.c1.cell 1
              have g2 := HO5.out.c1.cell 2
              have g3 := HO5.out.c1.cell 3
              dsimp only at HC
              go_wp2_with (go_at_call 14; refine HC.out.mono ?_; rintro e w6 ⟨q2, fv', lv', ms', ps', lt', u2, nx', rfl, hE⟩; obtain ⟨rfl, hS⟩ := sc_end HM5.out hE ⟨rfl, rfl, rfl, rfl⟩ (show (0 : Int) ≤ 1 ∧ (1 : Int) ≤ 3 by decide); have HR6 : Hid (SwS w w6 B db mb rb fv' lv' fs' ms' ps' lt' z u' nx' (k + 1) (datN (cs.take k) + nd) M (M + 1) ⟨1, nm, tg, .slice Ad nd cd, d, nn⟩ (.slice A3 nd q3)) := ⟨hS, HO5.out.chg hE.ch HRs.out, fun g hg => ⟨(HG5.out g hg).1, (HG5.out g hg).2.2, sw_rt (HG5.out g hg) HRs.out hE.sub⟩⟩; clear hE hS)
              go_meet
              exact ⟨_, _, _, _, _, _, rfl, HR6.out⟩
            by_cases hq2 : wh = 2
            · subst hq2
              have HC := hid (rd_remove HM5.out.rd HM5.out.gd (by omega) ⟨2, nm, tg, .slice Ad nd cd, d, nn⟩ ⟨HO.out.nm, HO.out.tg, HO.out.n1, HO.out.n2⟩ rfl (by have := HM5.out.sz; have := HD3.out; have := HD5.out; omega))
              have g1 := HO5.out.c1.cell 1
              have g2 := HO5.out.c1.cell 2
              have g3 := HO5.out.c1.cell 3
              dsimp only at HC
              go_wp2_with (go_at_call 15; refine HC.out.mono ?_; rintro e w6 ⟨q2, fv', lv', ms', ps', lt', u2, nx', rfl, hE⟩; obtain ⟨rfl, hS⟩ := sc_end HM5.out hE ⟨rfl, rfl, rfl, rfl⟩ (show (0 : Int) ≤ 2 ∧ (2 : Int) ≤ 3 by decide); have HR6 : Hid (SwS w w6 B db mb rb fv' lv' fs' ms' ps' lt' z u' nx' (k + 1) (datN (cs.take k) + nd) M (M + 1) ⟨2, nm, tg, .slice Ad nd cd, d, nn⟩ (.slice A3 nd q3)) := ⟨hS, HO5.out.chg hE.ch HRs.out, fun g hg => ⟨(HG5.out g hg).1, (HG5.out g hg).2.2, sw_rt (HG5.out g hg) HRs.out hE.sub⟩⟩; clear hE hS)
              go_meet
              exact ⟨_, _, _, _, _, _, rfl, HR6.out⟩
            by_cases hq3 : wh = 3
            · subst hq3
              have HC := hid (rd_rename HM5.out.rd HM5.out.gd (by omega) ⟨3, nm, tg, .slice Ad nd cd, d, nn⟩ ⟨HO.out.nm, HO.out.tg, HO.out.n1, HO.out.n2⟩ rfl (by have := HM5.out.sz; have := HD3.out; have := HD5.out; omega))
              have g1 := HO5.out.c1.cell 1
              have g2 := HO5.out.c1.cell 2
              have g3 := HO5.out.c1.cell 3
              dsimp only at HC
              go_wp2_with (go_at_call 16; refine HC.out.mono ?_; rintro e w6 ⟨q2, fv', lv', ms', ps', lt', u2, nx', rfl, hE⟩; obtain ⟨rfl, hS⟩ := sc_end HM5.out hE ⟨rfl, rfl, rfl, rfl⟩ (show (0 : Int) ≤ 3 ∧ (3 : Int) ≤ 3 by decide); have HR6 : Hid (SwS w w6 B db mb rb fv' lv' fs' ms' ps' lt' z u' nx' (k + 1) (datN (cs.take k) + nd) M (M + 1) ⟨3, nm, tg, .slice Ad nd cd, d, nn⟩ (.slice A3 nd q3)) := ⟨hS, HO5.out.chg hE.ch HRs.out, fun g hg => ⟨(HG5.out g hg).1, (HG5.out g hg).2.2, sw_rt (HG5.out g hg) HRs.out hE.sub⟩⟩; clear hE hS)
              go_meet
              exact ⟨_, _, _, _, _, _, rfl, HR6.out⟩
            by_cases hq4 : wh = 4
            · subst hq4
              have HC := hid (rd_crash HM5.out.rd HM5.out.gd (by omega) nn HO.out.n1 HO.out.n2 (by have := HM5.out.sz; have := HD3.out; have := HD5.out; omega))
              have g4 := HO5.out.c1.cell 4
              go_wp2_with (go_at_call 17; refine HC.out.mono ?_; rintro e w6 ⟨rfl, fv', ms', h1, h2, h3⟩; obtain ⟨e0, hS⟩ := sc_crash HM5.out rfl h1 h2 h3; have HR6 : Hid (q = 0 ∧ SwS w w6 B db mb rb fv' (.slice none 0 0) fs' ms' (crPs ps lt nn.toNat) [] z u' nx (k + 1) (datN (cs.take k) + nd) M (M + 1) ⟨4, nm, tg, .slice Ad nd cd, d, nn⟩ (.slice A3 nd q3)) := ⟨e0, hS, HO5.out.chg h2 HRs.out, fun g hg => ⟨(HG5.out g hg).1, (HG5.out g hg).2.2, sw_rt (HG5.out g hg) HRs.out h3⟩⟩; clear h1 h2 h3 e0 hS)
              go_meet
              exact ⟨_, _, _, _, _, _, by rw [HR6.out.1], HR6.out.2⟩
            · have HR6 : Hid (q = 0 ∧ SwS w w5 B db mb rb fv lv fs' ms ps lt z u' nx (k + 1) (datN (cs.take k) + nd) M (M + 1) ⟨wh, nm, tg, .slice Ad nd cd, d, nn⟩ (.slice A3 nd q3)) := by
                obtain ⟨e0, hS⟩ := sc_none HM5.out (show wh < 0 ∨ 4 < wh by omega)
                exact ⟨e0, hS, HO5.out, fun g hg => ⟨(HG5.out g hg).1, (HG5.out g hg).2.2, sw_rt (HG5.out g hg) HRs.out fun a r => .inl r⟩⟩
              go_wp2
              go_meet
              exact ⟨_, _, _, _, _, _, by rw [HR6.out.1], HR6.out.2⟩
          case rest =>
            obtain ⟨fv', lv', ms', ps', lt', nx', rfl, HSw⟩ := hcut
            have o3 := HSw.out.ow.c2.cell 3
            have p3 := HSw.out.ow.c1.cell 3
            have HS6 := hid HSw.out.sc
            have HSb := hid (same_sla (.slice A3 nd q3) (.slice Ad nd cd) d d (by rw [HNd.out]; omega) wc HSw.out.ow.rw.sla (HSx.out.below HS6.out.lp.lw.b))
            rw [decide_eq_true rfl] at HSb
            have HN1 : Hid (datN (cs.take k) + nd ≤ 3000) := by rw [← HD5.out]; exact HD3.out
            clear HM5 HO5 HG5 HFs HRs a0
            go_upto_region 30 with (go_at_call 18; refine HSb.out.mono ?_; rintro e w7 ⟨rfl, hb⟩; have HX0 : Hid (XoS w w7 B db mb rb fv' lv' fs' ms' ps' lt' z u' nx' (k + 1) (datN (cs.take k) + nd) M A3 nd q3) := (xos_start HSw.out HNd.out HwM.out).below hb; clear hb)
            clear HSb o3 p3 HSw HS6
            go_wp2
            go_loopw [14] (fun vj wr => ∃ j : Nat, vj = .int .i64 (j : Int) ∧ j ≤ nd ∧ Hid (XoS w wr B db mb rb fv' lv' fs' ms' ps' lt' z u' nx' (k + 1) (datN (cs.take k) + nd) M A3 nd q3)) (fun vj _ => nd - (intOf vj).toNat)
            case atStart => exact ⟨0, rfl, Nat.zero_le _, HX0.out⟩
            case round =>
              obtain ⟨j, rfl, hj, HX⟩ := hrel
              have o3 := HX.out.c3
              by_cases hjn : j < nd
              · obtain ⟨g, y, rfl, hg, hc, hf⟩ := HX.out.el j hjn
                have HGg := hid hg
                clear hg
                go_wp2
                go_roundw
                case rel => exact ⟨j + 1, by go_num, by omega, HX.out.set HGg.out _ _⟩
                case measure => simp [intOf]; omega
              · obtain rfl : j = nd := by omega
                have HS8 := hid HX.out.sc
                have HGd := hid (good_fs HS8.out.lp.lw.gd (by omega) hr2)
                have HNa := hid (names_ok HS8.out.lp.lw.dk (by have := HGd.out.2.2.2.1; omega))
                obtain ⟨m, hm⟩ : ∃ m, (fs'.map Fl.n).length = m := ⟨_, rfl⟩
                have HM := hid hm
                have hm1 : m ≤ 1000 := by rw [← hm, List.length_map]; exact HGd.out.2.2.2.1
                have HM1 : Hid (fs'.length = m) := by rw [← hm, List.length_map]; rfl
                clear hm
                go_upto_region 35 with (go_at_call 19; refine HNa.out.mono ?_; rintro e w9 ⟨vn, rfl, hr, hb⟩; have HS9 := hid (HS8.out.below hb); have HV := hid (srow_stx hr); clear hr hb)
                obtain ⟨A5, c5, rfl⟩ := stx_form HV.out HM.out
                clear HNa HX HS8 o3
                have hsz : sizeF fs' ≤ 3000 := Nat.le_trans HS9.out.lp.sz HN1.out
                have hzz : (sizeF fs' : Int) ≤ z := HGd.out.2.2.1
                have hll := loose_le2 fs'
                have HSzV : Hid (sizeV (ps'.map Prod.fst) ≤ 90000) := by unfold Hid; rw [HS9.out.sz]; omega
                have HRn : Hid (∀ W, Below w9.heap.size w9 W → Calls Try.prog 21 #[.pointer (some ⟨rb, 0, none⟩)] W fun e w' => ∃ v, e = .returned v ∧ STx w' v (fs'.map Fl.n) ∧ Below W.heap.size W w') := fun W hW => (rd_names (HS9.out.rd.below hW) HS9.out.gd (by omega) HSzV.out).mono fun e w' ⟨v, he, hr, hb⟩ => ⟨v, he, by
                  have := srow_stx hr
                  rw [← HS9.out.vw, view_n] at this
                  exact this, hb⟩
                have HSt : Hid (∀ W v, STx W v (fs'.map Fl.n) → Below w9.heap.size w9 W → Calls Try.prog 20 #[.slice A5 m c5, v] W fun e w' => e = .returned (.bool true) ∧ Below W.heap.size W w') := fun W v hv hW => samet_ok _ v _ (by rw [HM.out]; omega) W (HV.out.below hW) hv
                have HSz : Hid (∀ W, Below w9.heap.size w9 W → Calls Try.prog 22 #[.pointer (some ⟨db, 0, none⟩)] W fun e w' => e = .returned (.int .i64 (sizeF fs' : Int)) ∧ Below W.heap.size W w') := fun W hW => size_ok (HS9.out.lp.lw.dk.below hW)
                have HRz : Hid (∀ W, Below w9.heap.size w9 W → Calls Try.prog 23 #[.pointer (some ⟨rb, 0, none⟩)] W fun e w' => e = .returned (.int .i64 (sizeF fs' : Int)) ∧ Below W.heap.size W w') := fun W hW => by
                  have := rd_size (HS9.out.rd.below hW) HS9.out.gd (by omega) HSzV.out
                  rw [HS9.out.sz] at this
                  exact this
                have HRo : Hid (∀ W, Below w9.heap.size w9 W → Calls Try.prog 24 #[.pointer (some ⟨db, 0, none⟩)] W fun e w' => e = .returned (.int .i64 (z - (sizeF fs' : Int))) ∧ Below W.heap.size W w') := fun W hW => room_ok (HS9.out.lp.lw.dk.below hW) ⟨hr1, hr2⟩ hzz
                have HLo : Hid (∀ W, Below w9.heap.size w9 W → Calls Try.prog 25 #[.pointer (some ⟨db, 0, none⟩)] W fun e w' => e = .returned (.int .i64 ((looseF fs' : Nat) : Int)) ∧ Below W.heap.size W w') := fun W hW => loose_ok (HS9.out.lp.lw.dk.below hW) (by omega) (fun f hf => (HGd.out.2.2.2.2.2.1 f hf).2.2.1)
                have hlo1 : (lt'.map lzm).length = looseF fs' := by
                  rw [List.length_map, ← ag_loose HS9.out.rd.ag, ← HS9.out.vw, view_loose]
                obtain ⟨s, hs⟩ : ∃ s, sizeF fs' = s := ⟨_, rfl⟩
                obtain ⟨lo, hlo⟩ : ∃ lo, looseF fs' = lo := ⟨_, rfl⟩
                rw [hs] at hsz hzz hll HSz HRz HRo
                rw [hlo] at hll HLo hlo1
                obtain ⟨A6, c6, e6⟩ := lrow_form HS9.out.rd.rk.lr hlo1
                have l1 := HS9.out.rd.rk.blk.cell 1
                have l2 : w9.cell? ⟨rb, 1, none⟩ = some (.slice A6 lo c6) := by rw [← e6]; exact l1
                have w1 : IntKind.i64.wrap (z - (s : Int)) = z - (s : Int) := by rw [IntKind.wrap_i64]; omega
                have HL9 : L35 w9 rb (.slice A6 lo c6) w9 := ⟨Below.refl _ _, l2⟩
                clear hs hlo hlo1 e6 l1 l2
                go_region_held3 (fun W => Hid (Below w9.heap.size w9 W) ∧ W.cell? ⟨rb, 1, none⟩ = some (.slice A6 lo c6))
                  (first | exact hL16 | exact hL15 | exact hL14 | exact hL13 | exact hL12 | exact hL11 | exact hL10 | exact HL9 | exact l35_below HL9 (Below.refl _ _).drew | exact l35_below (by assumption) (Below.refl _ _).drew | assumption)
                  (first
                    | (go_at_call 21; refine (HRn.out _ (l35_b (by assumption))).mono ?_; rintro e w10 ⟨v2, rfl, hv, hb⟩; have HV2 := hid hv; have hL10 : L35 w9 rb (.slice A6 lo c6) w10 := l35_below (by assumption) hb; clear hb hv)
                    | (go_at_call 20; refine (HSt.out _ _ HV2.out (l35_b (by assumption))).mono ?_; rintro e w11 ⟨rfl, hb⟩; have hL11 : L35 w9 rb (.slice A6 lo c6) w11 := l35_below (by assumption) hb; clear hb)
                    | (go_at_call 22; refine (HSz.out _ (l35_b (by assumption))).mono ?_; rintro e w12 ⟨rfl, hb⟩; have hL12 : L35 w9 rb (.slice A6 lo c6) w12 := l35_below (by assumption) hb; clear hb)
                    | (go_at_call 23; refine (HRz.out _ (l35_b (by assumption))).mono ?_; rintro e w13 ⟨rfl, hb⟩; have hL13 : L35 w9 rb (.slice A6 lo c6) w13 := l35_below (by assumption) hb; clear hb)
                    | (go_at_call 24; refine (HRo.out _ (l35_b (by assumption))).mono ?_; rintro e w14 ⟨rfl, hb⟩; have hL14 : L35 w9 rb (.slice A6 lo c6) w14 := l35_below (by assumption) hb; clear hb)
                    | (go_at_call 25; refine (HLo.out _ (l35_b (by assumption))).mono ?_; rintro e w16 ⟨rfl, hb⟩; have hL16 : L35 w9 rb (.slice A6 lo c6) w16 := l35_below (by assumption) hb; clear hb))
                have HSl := hid (HS9.out.below hL16.1.out)
                have HVl := hid (HV.out.below hL16.1.out)
                clear HRn HSt HSz HRz HRo HLo HV2 HL9 hL10 hL11 hL12 hL13 hL14 hL16 HS9 HV
                go_wp2
                go_loopw [16] (fun vj wr => ∃ j : Nat, vj = .int .i64 (j : Int) ∧ j ≤ m ∧ Hid (Below w16.heap.size w16 wr)) (fun vj _ => m - (intOf vj).toNat)
                case atStart => exact ⟨0, rfl, Nat.zero_le _, by first | exact Below.refl _ _ | exact (Below.refl _ _).drew⟩
                case round =>
                  obtain ⟨j2, rfl, hj2, HB⟩ := hrel
                  by_cases hjm : j2 < m
                  · have hjl : j2 < fs'.length := by rw [HM1.out]; exact hjm
                    obtain ⟨b2, o2, rfl, hc⟩ := stx_at (HVl.out.below HB.out) (i := j2) (by rw [HM.out]; exact hjm)
                    rw [List.getElem_map] at hc
                    have hnm : fs'[j2].n.size ≤ 16 := (HGd.out.2.2.2.2.2.1 fs'[j2] (List.getElem_mem hjl)).1
                    have hdl : fs'[j2].d.length ≤ 3000 := Nat.le_trans (size_each HSl.out.lp.sz (List.getElem_mem hjl)) HN1.out
                    have HRd := hid (read_at (HSl.out.lp.lw.dk.below HB.out) hjl (by unfold maxLen; omega) (by omega))
                    have hgt : getV fs'[j2].n (ps'.map Prod.fst) = some fs'[j2].v := by
                      have hri := HSl.out.rd.ag.ri
                      rw [← HSl.out.vw] at hri ⊢
                      have hl2 : j2 < (viewF fs').length := by unfold viewF; rw [List.length_map]; exact hjl
                      have := get_at hri hl2
                      unfold viewF at this ⊢
                      rw [List.getElem_map] at this
                      exact this
                    have HRr : Hid (∀ W, Below wr.heap.size wr W → Calls Try.prog 27 #[.pointer (some ⟨rb, 0, none⟩), .string fs'[j2].n] W fun e w' => ∃ v, e = .returned (.tuple #[v, .bool true]) ∧ Row w' W.heap.size v fs'[j2].d ∧ Below W.heap.size W w') := fun W hW => by
                      have := rd_read ((HSl.out.rd.below HB.out).below hW) HSl.out.gd (by omega) HSzV.out fs'[j2].n (by unfold maxLen; omega)
                      rw [hgt] at this
                      exact this
                    obtain ⟨x, hx⟩ : ∃ x, fs'[j2].n = x := ⟨_, rfl⟩
                    obtain ⟨dd, hdd⟩ : ∃ d, fs'[j2].d = d := ⟨_, rfl⟩
                    rw [hx] at hc HRd HRr hnm
                    rw [hdd] at HRd HRr hdl
                    have HDl := hid hdl
                    have Hc := hid hc
                    clear hx hdd hgt hjl hdl
                    go_upto_region 41 with (go_at_call 26; refine HRd.out.mono ?_; rintro e w17 ⟨v1, rfl, hr, hb⟩; have HR1 := hid hr.sla; have HB17 := hid hb; have y1 := (hb.cell (p := ⟨b2, o2 + j2, none⟩) (cell_lt Hc.out)).trans Hc.out; clear hr hb)
                    go_upto_region 42 with (go_at_call 27; refine (HRr.out _ HB17.out).mono ?_; rintro e w18 ⟨v2, rfl, hr, hb⟩; have HR2 := hid hr.sla; have HR1' := hid (HR1.out.below hb); have HB18 := hid (HB17.out.trans (hb.mono HB17.out.size)); clear hr hb)
                    obtain ⟨A7, c7, e7, _⟩ := HR1'.out
                    obtain ⟨A8, c8, e8, _⟩ := HR2.out
                    subst e7 e8
                    have HSb := hid (same_sla _ _ dd dd (by have := HDl.out; omega) w18 HR1'.out HR2.out)
                    rw [decide_eq_true rfl] at HSb
                    go_wp2_with (go_at_call 18; refine HSb.out.mono ?_; rintro e w19 ⟨rfl, hb⟩; have HB19 := hid (HB.out.trans ((HB18.out.trans (hb.mono HB18.out.size)).mono HB.out.size)); clear hb)
                    go_roundw
                    case rel => exact ⟨j2 + 1, by go_num, by omega, HB19.out⟩
                    case measure => simp [intOf]; omega
                  · obtain rfl : j2 = m := by omega
                    have HSe : Hid (ScS w wr B db mb rb fv' lv' fs' ms' ps' lt' z u' nx' (k + 1) (datN (cs.take (k + 1)))) := by
                      have := HSl.out.below HB.out
                      rw [← HD5.out] at this
                      exact this
                    go_wp2
                    go_roundw
                    case rel => exact ⟨k + 1, fv', lv', fs', ms', ps', lt', u', nx', by go_num, by omega, HSe.out⟩
                    case measure => simp [intOf]; omega
        · obtain rfl : k = n := by omega
          have HE := hid HL.out.lp.lw.b
          go_wp2
          go_ret
          exact ⟨rfl, HE.out⟩
    · have HR : Hid (z < 0 ∨ 16777216 < z) := by unfold Hid; omega
      obtain ⟨A, c, rfl, hl, hh⟩ := h
      obtain ⟨n, hn⟩ : ∃ n, cs.length = n := ⟨_, rfl⟩
      rw [hn] at hl HGr ⊢
      clear hs hh hn hr hz
      by_cases hn0 : n = 0
      · subst hn0
        go_enter Try.func3, Try.ntmps3
        go_upto_region 3 with (go_at_call 7; refine HAl.out.mono ?_; rintro e w1 ⟨rfl, hb⟩; have B1 := hid hb; clear hb)
        go_upto_region 5 with (go_at_call 8; refine (HGr.out _ B1.out).mono ?_; intro e w2 hg; obtain ⟨he, hb⟩ := gr_yes hg HS.out; subst he; have B2 := hid (B1.out.trans (hb.mono B1.out.size)); clear hb hg)
        go_upto_region 6 with (go_at_call 9; refine (new_no z HR.out _).mono ?_; rintro e w3 ⟨rfl, hb⟩; have B3 := hid (B2.out.trans (hb.mono B2.out.size)); clear hb)
        go_upto_region 7 with (go_at_call 10; refine (rnew_no z HR.out _).mono ?_; rintro e w4 ⟨rfl, hb⟩; have B4 := hid (B3.out.trans (hb.mono B3.out.size)); clear hb)
        go_wp2
        go_loopw [9] (fun vi wr => vi = .int .i64 0 ∧ Hid (Below w.heap.size w wr)) (fun _ _ => 0)
        case atStart => exact ⟨rfl, B4.out⟩
        case round =>
          obtain ⟨rfl, HB⟩ := hrel
          go_wp2
          go_ret
          exact ⟨rfl, HB.out⟩
      · have hn1 : 0 < n := by omega
        go_enter Try.func3, Try.ntmps3
        go_upto_region 3 with (go_at_call 7; refine HAl.out.mono ?_; rintro e w1 ⟨rfl, hb⟩; have B1 := hid hb; clear hb)
        go_upto_region 5 with (go_at_call 8; refine (HGr.out _ B1.out).mono ?_; intro e w2 hg; obtain ⟨he, hb⟩ := gr_yes hg HS.out; subst he; have B2 := hid (B1.out.trans (hb.mono B1.out.size)); clear hb hg)
        go_upto_region 6 with (go_at_call 9; refine (new_no z HR.out _).mono ?_; rintro e w3 ⟨rfl, hb⟩; have B3 := hid (B2.out.trans (hb.mono B2.out.size)); clear hb)
        go_upto_region 7 with (go_at_call 10; refine (rnew_no z HR.out _).mono ?_; rintro e w4 ⟨rfl, hb⟩; have B4 := hid (B3.out.trans (hb.mono B3.out.size)); clear hb)
        go_wp2
        go_loopw [9] (fun vi wr => vi = .int .i64 0 ∧ Hid (Below w.heap.size w wr)) (fun _ _ => 0)
        case atStart => exact ⟨rfl, B4.out⟩
        case round =>
          obtain ⟨rfl, HB⟩ := hrel
          go_wp2
          go_ret
          exact ⟨rfl, HB.out⟩
  · have H := hid h
    clear h
    go_enter Try.func3, Try.ntmps3
    go_upto_region 3 with (go_at_call 7; refine HAl.out.mono ?_; rintro e w1 ⟨rfl, hb⟩; have B1 := hid hb; clear hb)
    go_wp2_with (go_at_call 8; refine (HGr.out _ B1.out).mono ?_; intro e w2 hg; obtain ⟨he, hb⟩ := gr_no hg hs; subst he; have B2 := hid (B1.out.trans (hb.mono B1.out.size)); clear hb hg)
    go_ret
    exact ⟨rfl, B2.out⟩
end Go.Proofs.Ytofkfafdodhmdaa
