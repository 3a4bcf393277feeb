/- Several texts in one: StF StG StH. Conditions: as each theorem names them. -/
import Derived.Test.YtofkfafdodhmdaaGreatDoorNJ
import Derived.Maps.AppendAt
/- (*store.file).add: bytes at a file's end. Conditions: the file stands; numbers below 2^40. -/
namespace Go.Proofs.YtofkfafdodhmdaaGreatDoor
open Go.RowKit

/-- Runs, and one more behind them. -/
def addR (l : List (Nat × Nat)) (u n : Nat) : List (Nat × Nat) :=
  match l.getLast? with
  | some r => if r.1 + r.2 = u then l.dropLast ++ [(r.1, r.2 + n)] else l ++ [(u, n)]
  | none => [(u, n)]
theorem addR_snoc (l : List (Nat × Nat)) (a s u n : Nat) : addR (l ++ [(a, s)]) u n = if a + s = u then l ++ [(a, s + n)] else l ++ [(a, s)] ++ [(u, n)] := by
  unfold addR
  simp
theorem addR_nil (u n : Nat) : addR [] u n = [(u, n)] := rfl
def Fv.add (b : List UInt8) (u : Nat) (f : Fv) : Fv := if b = [] then f else { f with d := f.d ++ b, l := addR f.l u b.length }

theorem own_set {w : World} {B sz n g cap : Nat} {T : TypeId} {xs : List Value} (h : w.ownsRow B T sz (.slice (some ⟨g, 0, none⟩) n cap) n xs) (j : Nat) (x : Value) : (w.setCell ⟨g, j, none⟩ x).ownsRow B T sz (.slice (some ⟨g, 0, none⟩) n cap) n (xs.set j x) := by
  refine ⟨by rw [List.length_set]; exact h.1, ?_⟩
  rcases h.2 with ⟨e, _⟩ | ⟨g', cap', cur, e, h1, h2, h3, h4, h5, h6⟩
  · cases e
  · injection e with e1 e2 e3
    injection e1 with e1
    injection e1 with e1
    subst e1 e3
    refine .inr ⟨g, cap, cur.setIfInBounds j x, rfl, h1, Blk.set (T := T) h2 j x, h3, h4, by simp [h5], ?_⟩
    rw [← h6, Array.toList_setIfInBounds, List.take_set]
theorem own_cells {w : World} {B sz n g cap : Nat} {T : TypeId} {xs : List Value} (h : w.ownsRow B T sz (.slice (some ⟨g, 0, none⟩) n cap) n xs) {j : Nat} {x : Value} (hj : xs[j]? = some x) : w.cell? ⟨g, j, none⟩ = some x ∧ w.frozen? ⟨g, j, none⟩ = false := by
  rcases h.2 with ⟨e, _⟩ | ⟨g', cap', cur, e, h1, h2, h3, h4, h5, h6⟩
  · cases e
  · injection e with e1 e2 e3
    injection e1 with e1
    injection e1 with e1
    subst e1 e3
    have hb : Blk w g T cur := h2
    refine ⟨?_, hb.free j⟩
    rw [hb.cell j]
    rw [← h6] at hj
    have hlt : j < n * sz := by
      rcases Nat.lt_or_ge j (n * sz) with q | q
      · exact q
      · rw [List.getElem?_take_eq_none q] at hj; cases hj
    rw [List.getElem?_take_of_lt hlt] at hj
    rw [← hj, Array.getElem?_toList]
theorem info_run : (Tryz.prog.info? 115).map (fun i => (i.zero, i.size, i.bytes)) = some (some (.agg #[.int .i64 0, .int .i64 0]), 2, 16) := by kernel_rfl

section
variable {ops : Array Oper} {rest : List Oper} {o : Oper} {a : Act} {Q : Exit → Act → World → Prop}
/-- append of some bytes to a row that stands among others. -/
theorem wpList_append_at (hgd : o.guard = Option.none) (s x : Operand)
    (ho : o.op = .call { callee := .builtin .append, args := #[s, x], argTypes := #[25, 25] })
    (w : World) (base : Nat) (v : Value) (l : List UInt8) (hs : a.eval s = v) (hown : Row w base v l)
    (ad : Addr) (c : Nat) (news : List UInt8) (hx : a.eval x = .slice (some ad) news.length c) (h0 : 0 < news.length) (hnews : HoldsA w (some ad) news)
    (hlen : l.length + news.length ≤ 100000000) (hbase : base ≤ w.heap.size)
    (h : ∀ v' w', Row w' base v' (l ++ news) → w.grownBy w' v.ownBlock → (v'.ownBlock = v.ownBlock ∨ v'.ownBlock = some w.heap.size) → wpList Tryz.prog ops Q rest (a.put o.dst v') w') : wpList Tryz.prog ops Q (o :: rest) a w := by
  obtain ⟨i0, hi, hz0, hz1, hz2⟩ := info_parts info_u8
  obtain ⟨b, off, e, hh⟩ := hnews h0
  cases e
  refine wpList_append_own_at w hgd s x 25 ho base 5 i0 (.int .u8 0) 1 1 Tryz.underlying25 hi hz0 hz1 hz2 rfl (by decide) v l.length (bc l) hs hown ⟨b, off, none⟩ news.length c (bc news) hx (by rw [bc_len]; omega) (fun j u hu => ?_) (bc_one _) (by unfold maxLen; omega) (by omega) hbase ?_
  · have hj : j < news.length := by
      rcases Nat.lt_or_ge j news.length with h1 | h1
      · exact h1
      · rw [bc_at, List.getElem?_eq_none h1] at hu; cases hu
    rw [add_zero_off, hh j hj, ← hu, bc_at, List.getElem?_eq_getElem hj, List.getD_eq_getElem?_getD, List.getElem?_eq_getElem hj]
    rfl
  · intro v' w' h1 h2 _ h4
    refine h v' w' ?_ h2 h4
    unfold Row
    rw [bc_app, List.length_append]
    exact h1
/-- append of a run. -/
theorem wpList_append_run1 (hgd : o.guard = Option.none) (s x : Operand)
    (ho : o.op = .call { callee := .builtin .append, args := #[s, x], argTypes := #[100, 100] })
    (w : World) (base : Nat) (v : Value) (l : List (Nat × Nat)) (hs : a.eval s = v) (hown : RRow w base v l)
    (G c : Nat) (y : Nat × Nat) (hx : a.eval x = .slice (some ⟨G, 0, Option.none⟩) 1 c) (hc : ∀ j u, ([.int .i64 (y.1 : Int), .int .i64 (y.2 : Int)] : List Value)[j]? = some u → w.cell? ((⟨G, 0, Option.none⟩ : Addr).add j) = some u)
    (hlen : l.length ≤ 1000000) (hbase : base ≤ w.heap.size)
    (h : ∀ v' w', RRow w' base v' (l ++ [y]) → w.grownBy w' v.ownBlock → (v'.ownBlock = v.ownBlock ∨ v'.ownBlock = some w.heap.size) → wpList Tryz.prog ops Q rest (a.put o.dst v') w') : wpList Tryz.prog ops Q (o :: rest) a w := by
  obtain ⟨i0, hi, hz0, hz1, hz2⟩ := info_parts info_run
  refine wpList_append_own_at w hgd s x 100 ho base 115 i0 _ 2 16 Tryz.underlying100 hi hz0 hz1 hz2 rfl (by decide) v l.length (flatR l) hs hown ⟨G, 0, Option.none⟩ 1 c [.int .i64 (y.1 : Int), .int .i64 (y.2 : Int)] hx rfl hc (fun u hu => by simp at hu; rcases hu with rfl | rfl <;> rfl) (by unfold maxLen; omega) (by omega) hbase ?_
  intro v' w' h1 h2 _ h4
  refine h v' w' ?_ h2 h4
  unfold RRow
  rw [flatR_app, List.length_append]
  exact h1
end

/-- The file with more bytes. -/
def Fl.more (f : Fl) (v : Value) (b : List UInt8) : Fl := { f with dv := v, d := f.d ++ b }
theorem flat_more {w w1 : World} {B : Nat} {f : Fl} {v : Value} {b : List UInt8} (h : FlAt w B f) (hr : Row w1 B v (f.d ++ b)) (hg : w.grownBy w1 f.dv.ownBlock) (hl : v.ownBlock = f.dv.ownBlock ∨ v.ownBlock = some w.heap.size) :
    FlAt (w1.setCell ⟨f.b, 0, none⟩ v) B (f.more v b) ∧ Chg f.has w (w1.setCell ⟨f.b, 0, none⟩ v) ∧ (∀ k, (f.more v b).has k → f.has k ∨ w.heap.size ≤ k) := by
  have nb : ∀ g, f.dv.ownBlock = some g → g ≠ f.b := fun g q => by
    obtain ⟨cur, hc⟩ := own_blk h.row q
    exact blk_ne0 hc h.blk (by decide)
  have b1 : Blk w1 f.b 102 #[f.dv, .int .i64 (f.m : Int), f.lv, .bool f.h] := (hg.block f.b h.blk.lt fun e => nb f.b e.symm rfl).trans h.blk
  have b2 := b1.set 0 v
  have hk : ∀ k, k ≠ f.b → (w1.setCell ⟨f.b, 0, none⟩ v).heap[k]? = w1.heap[k]? := fun k q => Below.heap_setCell _ _ _ _ q
  have hlv : ∀ g, f.lv.ownBlock = some g → w1.heap[g]? = w.heap[g]? ∧ g ≠ f.b := fun g q => by
    obtain ⟨cur, hc⟩ := own_blk h.run q
    refine ⟨hg.block g hc.lt fun e => ?_, blk_ne0 hc h.blk (by decide)⟩
    obtain ⟨cur2, hc2⟩ := own_blk h.row e.symm
    exact blk_ne0 hc hc2 (by decide) rfl
  refine ⟨⟨h.lo, b2, own_block0 hr fun g q => hk g ?_, own_block0 h.run fun g q => (hk g (hlv g q).2).trans (hlv g q).1⟩, (Chg.of_grown (S := f.has) hg fun k e => .inl (.inr (.inl e))).trans (Chg.of_set w1 f.b 0 v (S := f.has) (.inl rfl)) fun k q => .inl q, fun k q => ?_⟩
  · obtain ⟨cur, hc⟩ := own_blk hr q
    exact blk_ne0 hc b1 (by decide)
  · rcases q with q | q | q
    · exact .inl (.inl q)
    · rcases hl with r | r
      · exact .inl (.inr (.inl (r ▸ q)))
      · have q2 : v.ownBlock = some k := q
        rw [r] at q2
        exact .inr (Nat.le_of_eq (Option.some.inj q2))
    · exact .inl (.inr (.inr q))
/-- The file with other runs. -/
def Fl.runs (f : Fl) (v : Value) (l : List (Nat × Nat)) : Fl := { f with lv := v, l := l }
theorem flat_runs {w w1 : World} {B : Nat} {f : Fl} {v : Value} {l : List (Nat × Nat)} (h : FlAt w B f) (hr : RRow w1 B v l) (hg : Chg (fun k => f.lv.ownBlock = some k) w w1) (hl : v.ownBlock = f.lv.ownBlock ∨ ∃ k, v.ownBlock = some k ∧ w.heap.size ≤ k) :
    FlAt (w1.setCell ⟨f.b, 2, none⟩ v) B (f.runs v l) ∧ Chg f.has w (w1.setCell ⟨f.b, 2, none⟩ v) ∧ (∀ k, (f.runs v l).has k → f.has k ∨ w.heap.size ≤ k) := by
  have nb : ∀ g, f.lv.ownBlock = some g → g ≠ f.b := fun g q => by
    obtain ⟨cur, hc⟩ := own_blk h.run q
    exact blk_ne0 hc h.blk (by decide)
  have b1 : Blk w1 f.b 102 #[f.dv, .int .i64 (f.m : Int), f.lv, .bool f.h] := (hg.block f.b h.blk.lt fun e => nb f.b e rfl).trans h.blk
  have b2 := b1.set 2 v
  have hk : ∀ k, k ≠ f.b → (w1.setCell ⟨f.b, 2, none⟩ v).heap[k]? = w1.heap[k]? := fun k q => Below.heap_setCell _ _ _ _ q
  have hdv : ∀ g, f.dv.ownBlock = some g → w1.heap[g]? = w.heap[g]? ∧ g ≠ f.b := fun g q => by
    obtain ⟨cur, hc⟩ := own_blk h.row q
    refine ⟨hg.block g hc.lt fun e => ?_, blk_ne0 hc h.blk (by decide)⟩
    obtain ⟨cur2, hc2⟩ := own_blk h.run e
    exact blk_ne0 hc hc2 (by decide) rfl
  refine ⟨⟨h.lo, b2, own_block0 h.row fun g q => (hk g (hdv g q).2).trans (hdv g q).1, own_block0 hr fun g q => hk g ?_⟩, (hg.mono (S' := f.has) fun k e => .inr (.inr e)).trans (Chg.of_set w1 f.b 2 v (S := f.has) (.inl rfl)) fun k q => .inl q, fun k q => ?_⟩
  · obtain ⟨cur, hc⟩ := own_blk hr q
    exact blk_ne0 hc b1 (by decide)
  · rcases q with q | q | q
    · exact .inl (.inl q)
    · exact .inl (.inr (.inl q))
    · rcases hl with r | ⟨j, r, hj⟩
      · exact .inl (.inr (.inr (r ▸ q)))
      · have q2 : v.ownBlock = some k := q
        rw [r] at q2
        cases q2
        exact .inr hj
theorem flat_last {w : World} {B g cap k : Nat} {f : Fl} {r : List (Nat × Nat)} {a s n : Nat} (h : FlAt w B f) (e : f.lv = .slice (some ⟨g, 0, none⟩) (k + 1) cap) (el : f.l = r ++ [(a, s)]) (ek : r.length = k) :
    FlAt (w.setCell ⟨g, k * 2 + 1, none⟩ (.int .i64 ((s + n : Nat) : Int))) B (f.runs f.lv (r ++ [(a, s + n)])) ∧ Chg f.has w (w.setCell ⟨g, k * 2 + 1, none⟩ (.int .i64 ((s + n : Nat) : Int))) ∧ (∀ k, (f.runs f.lv (r ++ [(a, s + n)])).has k → f.has k ∨ w.heap.size ≤ k) := by
  have hgb : f.lv.ownBlock = some g := by rw [e]; rfl
  have hr : RRow w B (.slice (some ⟨g, 0, none⟩) (k + 1) cap) f.l := by rw [← e]; exact h.run
  have hlen : f.l.length = k + 1 := by rw [el]; simp [ek]
  have hr2 : w.ownsRow B 115 2 (.slice (some ⟨g, 0, none⟩) (k + 1) cap) (k + 1) (flatR f.l) := by rw [← hlen]; rw [hlen]; have := hr; unfold RRow at this; rw [hlen] at this; exact this
  have h2 := own_set hr2 (k * 2 + 1) (.int .i64 ((s + n : Nat) : Int))
  have es : (flatR f.l).set (k * 2 + 1) (.int .i64 ((s + n : Nat) : Int)) = flatR (r ++ [(a, s + n)]) := by
    rw [el, flatR_app, flatR_app, List.set_append_right _ _ (by rw [flatR_len]; omega), flatR_len, ek, show k * 2 + 1 - k * 2 = 1 by omega]
    rfl
  rw [es] at h2
  have nb : g ≠ f.b := by
    obtain ⟨cur, hc⟩ := own_blk h.run hgb
    exact blk_ne0 hc h.blk (by decide)
  have hk : ∀ j, j ≠ g → (w.setCell ⟨g, k * 2 + 1, none⟩ (.int .i64 ((s + n : Nat) : Int))).heap[j]? = w.heap[j]? := fun j q => Below.heap_setCell _ _ _ _ q
  refine ⟨⟨h.lo, (hk f.b nb.symm).trans h.blk, own_block0 h.row fun j q => hk j ?_, ?_⟩, Chg.of_set w g _ _ (S := f.has) (.inr (.inr hgb)), fun j q => .inl q⟩
  · obtain ⟨cur, hc⟩ := own_blk h.row q
    obtain ⟨cur2, hc2⟩ := own_blk h.run hgb
    exact blk_ne0 hc hc2 (by decide)
  · show RRow _ B f.lv (r ++ [(a, s + n)])
    unfold RRow
    rw [e, show (r ++ [(a, s + n)]).length = k + 1 by simp [ek]]
    exact h2
end Go.Proofs.YtofkfafdodhmdaaGreatDoor

/- (*store.file).add. Conditions: the file stands; numbers below 2^40. -/
namespace Go.Proofs.YtofkfafdodhmdaaGreatDoor
open Go.RowKit

/-- What add leaves. -/
structure AdE (w w' : World) (B : Nat) (f g : Fl) (v : Fv) : Prop where
  sat : FlAt w' B g
  vw : g.v = v
  bk : g.b = f.b
  ch : Chg f.has w w'
  su : ∀ k, g.has k → f.has k ∨ w.heap.size ≤ k

theorem cell_two (w : World) (x y : Value) (t : TypeId) : ∀ j u, ([x, y] : List Value)[j]? = some u → (w.alloc (.cells #[x, y] t)).cell? ((⟨w.heap.size, 0, Option.none⟩ : Addr).add j) = some u := by
  intro j u hj
  rw [add_zero_off, World.cell?_alloc_at _ _ _ _ rfl]
  match j, hj with
  | 0, hj => simpa using hj
  | 1, hj => simpa using hj

set_option maxHeartbeats 1000000 in
theorem add_nil {f : Fl} {w : World} (A : Option Addr) (c : Nat) (u : Int) : Calls Tryz.prog 59 #[.pointer (some ⟨f.b, 0, none⟩), .slice A 0 c, .int .i64 u] w fun e w' => e = .returned (.tuple #[]) ∧ Below w.heap.size w w' := by
  go_enter Tryz.func59, Tryz.ntmps59
  go_wp2
  refine bodyPost_ret (results_none rfl _ _ _) rfl ?_
  exact ⟨rfl, Below.refl _ _⟩

theorem rrow_form {w : World} {B : Nat} {v : Value} {l : List (Nat × Nat)} (h : RRow w B v l) (h0 : l ≠ []) : ∃ g cap, v = .slice (some ⟨g, 0, none⟩) l.length cap := by
  rcases h.2 with ⟨_, e⟩ | ⟨g, cap, _, e, _⟩
  · exact absurd (List.eq_nil_of_length_eq_zero e) h0
  · exact ⟨g, cap, e⟩
/-- Where add is, the bytes being there. -/
structure AdW (w W : World) (B : Nat) (f f1 : Fl) : Prop where
  sat : FlAt W B f1
  ch : Chg f.has w W
  su : ∀ k, f1.has k → f.has k ∨ w.heap.size ≤ k
theorem AdW.drew {w W : World} {B : Nat} {f f1 : Fl} (h : AdW w W B f f1) : AdW w W.drew B f f1 := ⟨h.sat.keep fun _ _ => rfl, h.ch.drew, h.su⟩
theorem ade_end {w W w' : World} {B : Nat} {f f1 g : Fl} {v : Fv} (h : AdW w W B f f1) (r : FlAt w' B g ∧ Chg f1.has W w' ∧ (∀ k, g.has k → f1.has k ∨ W.heap.size ≤ k)) (hv : g.v = v) (hb : g.b = f.b) : AdE w w' B f g v :=
  ⟨r.1, hv, hb, h.ch.trans r.2.1 h.su, fun k q => by
    rcases r.2.2 k q with p | p
    · exact h.su k p
    · exact .inr (Nat.le_trans h.ch.size p)⟩
theorem lv_keep {W w2 : World} {B : Nat} {f : Fl} (h : FlAt W B f) (hg : Chg (fun k => f.lv.ownBlock = some k) W w2) : w2.cell? ⟨f.b, 2, none⟩ = some f.lv ∧ w2.frozen? ⟨f.b, 2, none⟩ = false := by
  have hb : w2.heap[f.b]? = W.heap[f.b]? := hg.block f.b h.blk.lt fun e => by
    obtain ⟨cur, hc⟩ := own_blk h.run e
    exact blk_ne0 hc h.blk (by decide) rfl
  have hk : Blk w2 f.b 102 #[f.dv, .int .i64 (f.m : Int), f.lv, .bool f.h] := hb.trans h.blk
  exact ⟨hk.cell 2, hk.free 2⟩
theorem chg_run {W w2 : World} {o : Obj} {v : Value} (h : (W.alloc o).grownBy w2 v.ownBlock) : Chg (fun k => v.ownBlock = some k) W w2 :=
  (Chg.of_below _ (below_new W o)).trans (Chg.of_grown (S := fun k => v.ownBlock = some k) h fun _ e => .inl e) fun _ q => .inl q
theorem own_or {W : World} {o : Obj} {v v2 : Value} (h : v2.ownBlock = v.ownBlock ∨ v2.ownBlock = some (W.alloc o).heap.size) : v2.ownBlock = v.ownBlock ∨ ∃ k, v2.ownBlock = some k ∧ W.heap.size ≤ k := by
  rcases h with h | h
  · exact .inl h
  · exact .inr ⟨_, h, by simp⟩

set_option maxRecDepth 100000 in
set_option maxHeartbeats 4000000 in
theorem add_some {B : Nat} {f : Fl} {w : World} (ad : Addr) (c u : Nat) (b : List UInt8) (h : FlAt w B f) (hb : HoldsA w (some ad) b) (h0 : 0 < b.length) (_ : u ≤ 1000000000000) (hd : f.d.length + b.length ≤ 100000000) (hl : f.l.length ≤ 1000000) (hr : ∀ r ∈ f.l, r.1 + r.2 ≤ 1000000000000) : Calls Tryz.prog 59 #[.pointer (some ⟨f.b, 0, none⟩), .slice (some ad) b.length c, .int .i64 (u : Int)] w fun e w' => e = .returned (.tuple #[]) ∧ ∃ g, AdE w w' B f g (f.v.add b u) := by
  have hne : b ≠ [] := fun e => by rw [e] at h0; exact absurd h0 (by decide)
  have HV : Hid (f.v.add b u = { f.v with d := f.d ++ b, l := addR f.l u b.length }) := if_neg hne
  have g0 : ((b.length : Int) == 0) = false := by rw [beq_eq_false_iff_ne]; omega
  obtain ⟨A1, q1, e1, _, _, _, _⟩ := h.row.sla
  have E1 := hid e1
  have hrow := h.row
  rw [e1] at hrow
  have HRow := hid hrow
  have m0 : w.cell? ⟨f.b, 0, none⟩ = some (.slice A1 f.d.length q1) := by rw [← e1]; exact h.blk.cell 0
  have f0 : w.frozen? ⟨f.b, 0, none⟩ = false := h.blk.free 0
  have HF := hid h
  have HB := hid hb
  have HR := hid hr
  have hBw : B ≤ w.heap.size := Nat.le_of_lt (Nat.lt_of_le_of_lt h.lo h.blk.lt)
  have HBw := hid hBw
  have h00 := hid h0
  have hD := hid hd
  clear h hb hr hne hBw e1 hrow
  go_enter Tryz.func59, Tryz.ntmps59
  go_upto_region 2 with (at_builtin; refine wpList_append_at rfl (.tmp 14) (.tmp 15) rfl _ B (.slice A1 f.d.length q1) f.d rfl HRow.out ad c b rfl h00.out HB.out hD.out HBw.out ?_; intro v1 w1 hr1 hg1 hl1; obtain ⟨A2, q2, e2, _⟩ := hr1.sla; obtain ⟨n2, hn2⟩ : ∃ n, (f.d ++ b).length = n := ⟨_, rfl⟩; rw [hn2] at e2; subst e2; clear hn2; rw [← E1.out] at hg1 hl1; have HM := hid (flat_more HF.out hr1 hg1 hl1); have m0 : w1.cell? ⟨f.b, 0, none⟩ = some (.slice A1 f.d.length q1) := (World.cell?_of_block (hg1.block f.b HF.out.blk.lt (fun e => by obtain ⟨cur, hc⟩ := own_blk HF.out.row e.symm; exact blk_ne0 hc HF.out.blk (by decide) rfl))).trans (by rw [← E1.out]; exact HF.out.blk.cell 0); have f0 : w1.frozen? ⟨f.b, 0, none⟩ = false := (World.frozen?_of_block (hg1.block f.b HF.out.blk.lt (fun e => by obtain ⟨cur, hc⟩ := own_blk HF.out.row e.symm; exact blk_ne0 hc HF.out.blk (by decide) rfl))).trans (HF.out.blk.free 0); clear hr1 hg1 hl1)
  obtain ⟨f1, hf1⟩ : ∃ f1, f.more (.slice A2 n2 q2) b = f1 := ⟨_, rfl⟩
  rw [hf1] at HM
  refine wp_ltc (fun W => Hid (AdW w W B f f1)) ⟨HM.out.1, HM.out.2.1, HM.out.2.2⟩ (fun W HW => ?_)
  have p1 : f1.b = f.b := by rw [← hf1]; rfl
  have p2 : f1.lv = f.lv := by rw [← hf1]; rfl
  have p3 : f1.l = f.l := by rw [← hf1]; rfl
  have p4 : Hid (∀ v l, (f1.runs v l).v = { f.v with d := f.d ++ b, l := l }) := fun v l => by rw [← hf1]; rfl
  have P1 := hid p1
  have P3 := hid p3
  clear HM m0 f0 hf1
  have HBW : Hid (∀ W, AdW w W B f f1 → B ≤ W.heap.size) := fun W h => Nat.le_trans HBw.out h.ch.size
  have k2 : W.cell? ⟨f.b, 2, none⟩ = some f.lv := by rw [← p1, ← p2]; exact HW.out.sat.blk.cell 2
  rcases List.eq_nil_or_concat f.l with el | ⟨r, ⟨a, s⟩, el⟩
  · have hlv : ∃ cap A, f.lv = .slice A 0 cap := by
      have h := HW.out.sat.run
      rw [p2, p3, el] at h
      rcases h.2 with ⟨e, _⟩ | ⟨g, cap, cur, e, _⟩
      · exact ⟨0, none, e⟩
      · exact ⟨cap, some ⟨g, 0, none⟩, e⟩
    obtain ⟨cap, A, elv⟩ := hlv
    rw [elv] at k2
    have HEL := hid el
    have HELV := hid (p2.trans elv)
    have hw1 : IntKind.i64.wrap ((0 : Int) - 1) = -1 := by decide
    have HK : Hid (∀ W, AdW w W B f f1 → RRow W B (.slice A 0 cap) [] ∧ W.cell? ⟨f.b, 2, none⟩ = some (.slice A 0 cap)) := fun W h => by
      refine ⟨?_, ?_⟩
      · have := h.sat.run
        rw [p3, el, p2, elv] at this
        exact this
      · rw [← elv, ← p2, ← p1]; exact h.sat.blk.cell 2
    clear el elv p1 p2 p3
    go_upto_region 3 with (fail)
    go_region
    go_upto_region 5 with (fail)
    refine wp_ltc (fun W => Hid (AdW w W B f f1)) (by first | exact HW.out.drew | exact HW.out) (fun W3 H3 => ?_)
    obtain ⟨hrw, k3⟩ := HK.out W3 H3.out
    have HRw := hid hrw
    clear k2 HW hrw HK
    go_wp2_with (at_builtin; refine wpList_append_run1 rfl (.tmp 65) (.tmp 70) rfl _ B (.slice A 0 cap) [] rfl (World.ownsRow.alloc HRw.out _) _ _ (u, b.length) rfl (cell_two _ _ _ _) (by simp) (by have := HBW.out W3 H3.out; simp; omega) ?_; intro v2 w2 hr2 hg2 hl2; obtain ⟨g3, q3, e3⟩ := rrow_form hr2 (by simp); subst e3; rw [← HELV.out] at hg2 hl2; have HE := hid (flat_runs H3.out.sat hr2 (chg_run hg2) (own_or hl2)); obtain ⟨j2, f2⟩ := lv_keep H3.out.sat (chg_run hg2); rw [P1.out, HELV.out] at j2; rw [P1.out] at f2; clear hr2 hg2 hl2)
    go_end0
    rw [P1.out] at HE
    refine ⟨rfl, _, ade_end H3.out HE.out ?_ P1.out⟩
    rw [p4.out, HV.out, HEL.out]
    rfl
  · rw [List.concat_eq_append] at el
    obtain ⟨k, hk⟩ : ∃ k, r.length = k := ⟨_, rfl⟩
    obtain ⟨n1, hn1⟩ : ∃ n, k + 1 = n := ⟨_, rfl⟩
    have hlen : f.l.length = n1 := by rw [el]; simp [hk, hn1]
    have hrow0 : RRow W B f.lv f.l := by have := HW.out.sat.run; rw [p2, p3] at this; exact this
    obtain ⟨g, cap, elv⟩ := rrow_form hrow0 (by rw [el]; simp)
    rw [hlen] at elv
    rw [elv] at k2
    have HELV := hid (p2.trans elv)
    have HEL := hid el
    have HLn := hid hlen
    have HKn := hid hk
    have HN1 := hid hn1
    have HK : Hid (∀ W, AdW w W B f f1 → W.ownsRow B 115 2 (.slice (some ⟨g, 0, none⟩) n1 cap) n1 (flatR f.l) ∧ W.cell? ⟨f.b, 2, none⟩ = some (.slice (some ⟨g, 0, none⟩) n1 cap) ∧ W.cell? ⟨g, k * 2, none⟩ = some (.int .i64 (a : Int)) ∧ W.cell? ⟨g, k * 2 + 1, none⟩ = some (.int .i64 (s : Int)) ∧ W.frozen? ⟨g, k * 2 + 1, none⟩ = false) := fun W h => by
      have h1 := h.sat.run
      rw [p3, p2, elv] at h1
      unfold RRow at h1
      rw [hlen] at h1
      have ha := own_cells h1 (j := k * 2) (x := .int .i64 (a : Int)) (by rw [el, flatR_app, List.getElem?_append_right (by rw [flatR_len]; omega), flatR_len, hk, Nat.sub_self]; rfl)
      have hs := own_cells h1 (j := k * 2 + 1) (x := .int .i64 (s : Int)) (by rw [el, flatR_app, List.getElem?_append_right (by rw [flatR_len]; omega), flatR_len, hk, show k * 2 + 1 - k * 2 = 1 by omega]; rfl)
      refine ⟨h1, ?_, ha.1, hs.1, hs.2⟩
      rw [← elv, ← p2, ← p1]; exact h.sat.blk.cell 2
    have hrs := HR.out (a, s) (by rw [el]; simp)
    have hw1 : IntKind.i64.wrap ((n1 : Int) - 1) = (k : Int) := by rw [IntKind.wrap_i64]; omega
    have hw2 : IntKind.i64.wrap ((a : Int) + (s : Int)) = (a : Int) + (s : Int) := by rw [IntKind.wrap_i64]; simp at hrs; omega
    have hk1 : k < n1 := by omega
    have hw3 : IntKind.i64.wrap ((s : Int) + (b.length : Int)) = ((s + b.length : Nat) : Int) := by rw [IntKind.wrap_i64]; simp at hrs; omega
    obtain ⟨_, _, ha1, hs1, hs2⟩ := HK.out W HW.out
    clear el elv hrs hk hn1 hlen hrow0 p1 p2 p3
    by_cases hq : a + s = u
    · have hq1 : ((a : Int) + (s : Int) == (u : Int)) = true := by rw [beq_iff_eq]; omega
      have HQ := hid hq
      clear hq
      go_upto_region 3 with (fail)
      go_region
      go_upto_region 4 with (fail)
      refine wp_ltc (fun W => Hid (AdW w W B f f1)) (by first | exact HW.out.drew | exact HW.out) (fun W3 H3 => ?_)
      obtain ⟨_, k3, hb1, hb2, hb3⟩ := HK.out W3 H3.out
      clear k2 HW HK ha1 hs1 hs2
      go_wp2
      refine bodyPost_ret (results_none rfl _ _ _) rfl ?_
      have HE := flat_last (n := b.length) H3.out.sat (HELV.out.trans (by rw [← HN1.out])) (P3.out.trans HEL.out) HKn.out
      refine ⟨rfl, _, ade_end H3.out HE ?_ P1.out⟩
      rw [p4.out, HV.out, HEL.out, addR_snoc, if_pos HQ.out]
    · have hq1 : ((a : Int) + (s : Int) == (u : Int)) = false := by rw [beq_eq_false_iff_ne]; omega
      have HQ := hid hq
      clear hq
      go_upto_region 3 with (fail)
      go_region
      go_upto_region 5 with (fail)
      refine wp_ltc (fun W => Hid (AdW w W B f f1)) (by first | exact HW.out.drew | exact HW.out) (fun W3 H3 => ?_)
      obtain ⟨hrw, k3, _, _, _⟩ := HK.out W3 H3.out
      have hrw2 : RRow W3 B (.slice (some ⟨g, 0, none⟩) n1 cap) f.l := by unfold RRow; rw [HLn.out]; exact hrw
      have HRw := hid hrw2
      clear k2 HW hrw hrw2 HK ha1 hs1 hs2
      go_wp2_with (at_builtin; refine wpList_append_run1 rfl (.tmp 65) (.tmp 70) rfl _ B (.slice (some ⟨g, 0, none⟩) n1 cap) f.l rfl (World.ownsRow.alloc HRw.out _) _ _ (u, b.length) rfl (cell_two _ _ _ _) hl (by have := HBW.out W3 H3.out; simp; omega) ?_; intro v2 w2 hr2 hg2 hl2; obtain ⟨g3, q3, e3⟩ := rrow_form hr2 (by simp); obtain ⟨n3, hn3⟩ : ∃ n, (f.l ++ [(u, b.length)]).length = n := ⟨_, rfl⟩; rw [hn3] at e3; subst e3; clear hn3; rw [← HELV.out] at hg2 hl2; have HE := hid (flat_runs H3.out.sat hr2 (chg_run hg2) (own_or hl2)); obtain ⟨j2, f2⟩ := lv_keep H3.out.sat (chg_run hg2); rw [P1.out, HELV.out] at j2; rw [P1.out] at f2; clear hr2 hg2 hl2)
      go_end0
      rw [P1.out] at HE
      refine ⟨rfl, _, ade_end H3.out HE.out ?_ P1.out⟩
      rw [p4.out, HV.out, HEL.out, addR_snoc, if_neg HQ.out]
end Go.Proofs.YtofkfafdodhmdaaGreatDoor

/- (*store.Disk).Write. Conditions: the disk stands; names no longer than any are; numbers below 2^40. -/
namespace Go.Proofs.YtofkfafdodhmdaaGreatDoor
open Go.RowKit

def newV (x : ByteArray) : Fv := ⟨x, [], 0, [], false⟩
def wrV (x : ByteArray) (b : List UInt8) (u : Nat) (vs : Vs) : Vs := match getV x vs with
  | some _ => updV x (Fv.add b u) vs
  | none => insV ((newV x).add b u) vs
theorem add_n (f : Fv) (b : List UInt8) (u : Nat) : (f.add b u).n = f.n := by unfold Fv.add; split <;> rfl
theorem add_d (f : Fv) (b : List UInt8) (u : Nat) : (f.add b u).d = f.d ++ b := by
  unfold Fv.add
  split
  · rename_i h; rw [h, List.append_nil]
  · rfl
theorem add_m (f : Fv) (b : List UInt8) (u : Nat) : (f.add b u).m = f.m := by unfold Fv.add; split <;> rfl
theorem add_any {B : Nat} {f : Fl} {w : World} (vb : Value) (b : List UInt8) (u : Nat) (h : FlAt w B f) (hb : SlA w vb b) (hd : f.d.length + b.length ≤ 100000000) (hu : u ≤ 1000000000000) (hl : f.l.length ≤ 1000000) (hr : ∀ r ∈ f.l, r.1 + r.2 ≤ 1000000000000) : Calls Tryz.prog 59 #[.pointer (some ⟨f.b, 0, none⟩), vb, .int .i64 (u : Int)] w fun e w' => e = .returned (.tuple #[]) ∧ ∃ g, AdE w w' B f g (f.v.add b u) := by
  obtain ⟨A, c, rfl, _, _, hh, _⟩ := hb
  by_cases h0 : 0 < b.length
  · have hh2 := hh
    obtain ⟨bb, off, e, _⟩ := hh h0
    subst e
    exact add_some _ c u b h hh2 h0 hu hd hl hr
  · have e : b = [] := List.eq_nil_of_length_eq_zero (by omega)
    subst e
    refine (add_nil A c (u : Int)).mono ?_
    rintro e w' ⟨rfl, hw⟩
    exact ⟨rfl, f, h.keep fun k q => hw.block k (h.lt q).2, (if_pos rfl).symm, rfl, Chg.of_below _ hw, fun k q => .inl q⟩

set_option maxHeartbeats 1000000 in
theorem write_form (db : Nat) (x : ByteArray) (vb : Value) (hx : x.size ≤ maxLen) (hr : rightB x = false) (w : World) : Calls Tryz.prog 24 #[.pointer (some ⟨db, 0, none⟩), .string x, vb] w fun e w' => e = .returned (.int .i64 10) ∧ Below w.heap.size w w' := by
  have HC := hid (right_ok x hx w)
  rw [hr] at HC
  go_enter Tryz.func24, Tryz.ntmps24
  go_wp2_with (go_at_call 56; refine HC.out.mono ?_; rintro e w5 ⟨rfl, hb5⟩)
  go_ret
  exact ⟨rfl, hb5⟩

set_option maxHeartbeats 1000000 in
theorem write_full {B db mb : Nat} {fs : List Fl} {z u : Int} {w : World} (h : DkAt w B db mb fs z u) (x : ByteArray) (A : Option Addr) (n c : Nat) (hx : x.size ≤ maxLen) (hr : rightB x = true) (hz : 0 ≤ z ∧ z ≤ 16777216) (hs : (sizeF fs : Int) ≤ z) (hn : z < (sizeF fs : Int) + (n : Int)) : Calls Tryz.prog 24 #[.pointer (some ⟨db, 0, none⟩), .string x, .slice A n c] w fun e w' => e = .returned (.int .i64 21) ∧ Below w.heap.size w w' := by
  have HC := hid (right_ok x hx w)
  rw [hr] at HC
  have HR : Hid (∀ W, Below w.heap.size w W → Calls Tryz.prog 57 #[.pointer (some ⟨db, 0, none⟩)] W fun e w' => e = .returned (.int .i64 (z - (sizeF fs : Int))) ∧ Below W.heap.size W w') := fun W hW => room_ok (h.below hW) hz hs
  generalize sizeF fs = S at *
  have hq : z - (S : Int) < (n : Int) := by omega
  clear h
  go_enter Tryz.func24, Tryz.ntmps24
  go_wp2_with (first
    | (go_at_call 56; refine HC.out.mono ?_; rintro e w5 ⟨rfl, hb5⟩)
    | (go_at_call 57; refine (HR.out _ hb5).mono ?_; rintro e w6 ⟨rfl, hb6⟩))
  go_ret
  exact ⟨rfl, hb5.trans (hb6.mono hb5.size)⟩

set_option maxRecDepth 100000 in
set_option maxHeartbeats 8000000 in
theorem write_ok {B db mb : Nat} {fs : List Fl} {z : Int} {u : Nat} {w : World} (h : DkAt w B db mb fs z (u : Int)) (x : ByteArray) (vb : Value) (b : List UInt8) (hx : x.size ≤ 1000) (hr : rightB x = true) (hb : SlA w vb b) (hz : 0 ≤ z ∧ z ≤ 16777216) (hs : (sizeF fs : Int) + (b.length : Int) ≤ z) (hu : u ≤ 1000000000000) (hfl : ∀ f ∈ fs, f.l.length ≤ 1000000 ∧ ∀ r ∈ f.l, r.1 + r.2 ≤ 1000000000000) (hlen : fs.length ≤ 100000) :
    Calls Tryz.prog 24 #[.pointer (some ⟨db, 0, none⟩), .string x, vb] w fun e w' => e = .returned (.int .i64 0) ∧ ∃ fs', DkAt w' B db mb fs' z ((u + b.length : Nat) : Int) ∧ viewF fs' = wrV x b u (viewF fs) ∧ Chg (Ft db mb fs) w w' ∧ (∀ k, Ft db mb fs' k → Ft db mb fs k ∨ w.heap.size ≤ k) := by
  have hxm : x.size ≤ maxLen := by unfold maxLen; omega
  have HC := hid (right_ok x hxm w)
  rw [hr] at HC
  have HR : Hid (∀ W, Below w.heap.size w W → Calls Tryz.prog 57 #[.pointer (some ⟨db, 0, none⟩)] W fun e w' => e = .returned (.int .i64 (z - (sizeF fs : Int))) ∧ Below W.heap.size W w') := fun W hW => room_ok (h.below hW) hz (by omega)
  have HD := hid h
  have hSb := hid hb
  obtain ⟨A0, c0, e0, _, _, _, _⟩ := hb
  subst e0
  obtain ⟨S, hSe⟩ : ∃ S, S = sizeF fs := ⟨_, rfl⟩
  rw [← hSe] at HR hs
  have hS := hid hSe
  have hq : ¬ (z - (S : Int) < (b.length : Int)) := by omega
  have hwS : IntKind.i64.wrap ((S : Int) + (b.length : Int)) = ((S + b.length : Nat) : Int) := by rw [IntKind.wrap_i64]; omega
  have hwu : IntKind.i64.wrap ((u : Int) + (b.length : Int)) = ((u + b.length : Nat) : Int) := by rw [IntKind.wrap_i64]; omega
  have hbl : Hid (S + b.length ≤ 16777216) := by unfold Hid; omega
  have hu2 := hid hu
  clear hSe hs hu
  have hu := hu2
  have HFL := hid hfl
  clear h hu2 hfl
  rcases part x HD.out.ri with ⟨A, f, C, e1, e2⟩ | ⟨A, C, e1, hA, hC⟩
  · subst e1
    subst e2
    have HN : Hid (∀ W, Below w.heap.size w W → W.cell? ⟨db, 0, none⟩ = some (.map (some mb)) ∧ (Instr.lookup 88 (.map (some mb)) (.string f.n) false).run Tryz.prog W = .ok (.pointer (some ⟨f.b, 0, none⟩)) W ∧ W.cell? ⟨db, 3, none⟩ = some (.int .i64 (u : Int)) ∧ Dk W B db mb (A ++ f :: C) z ((sizeF (A ++ f :: C) : Nat) : Int) (u : Int)) := fun W hW => ⟨(HD.out.below hW).blk.cell 0, look_some (HD.out.below hW).map (HD.out.below hW).ri hxm, (HD.out.below hW).blk.cell 3, HD.out.below hW⟩
    go_enter Tryz.func24, Tryz.ntmps24
    go_upto_region 9 with (first
      | (go_at_call 56; refine HC.out.mono ?_; rintro e w5 ⟨rfl, hb5⟩)
      | (go_at_call 57; refine (HR.out _ hb5).mono ?_; rintro e w6 ⟨rfl, hb6⟩; have B6 := hid (hb5.trans (hb6.mono hb5.size)); clear hb5 hb6; obtain ⟨m0, hl, m3, hd⟩ := HN.out w6 B6.out; have D6 := hid hd; clear hd))
    clear m0 hl m3 HN HC HR
    have hfd : Hid (f.d.length ≤ S) := by unfold Hid; rw [hS.out, sizeF_mid]; omega
    have HAd := hid (add_any (f := f) (.slice A0 b.length c0) b u (D6.out.fl _ (by simp)) (hSb.out.below B6.out) (by have := hbl.out; have := hfd.out; omega) hu.out (HFL.out f (by simp)).1 (HFL.out f (by simp)).2)
    have m3 : w6.cell? ⟨db, 3, none⟩ = some (.int .i64 (u : Int)) := D6.out.blk.cell 3
    go_upto_region 10 with (go_at_call 59; (with_reducible refine HAd.out.mono ?_); rintro e w8 ⟨rfl, g, hg⟩; have HG := hid hg; clear hg)
    have D8 := hid (D6.out.upd HG.out.ch HG.out.sat (by have := congrArg Fv.n HG.out.vw; rw [add_n] at this; exact this) HG.out.bk HG.out.su)
    clear m3 HAd
    have m2 : w8.cell? ⟨db, 2, none⟩ = some (.int .i64 (S : Int)) := by rw [hS.out]; exact D8.out.blk.cell 2
    have g2 : w8.frozen? ⟨db, 2, none⟩ = false := D8.out.blk.free 2
    go_upto_region 11 with (fail)
    have D9 := hid (D8.out.own (z' := z) (s' := ((S + b.length : Nat) : Int)) (u' := (u : Int)) 2 (.int .i64 ((S + b.length : Nat) : Int)) rfl)
    refine wp_ltc (fun W => Hid (Dk W B db mb (A ++ g :: C) z ((S + b.length : Nat) : Int) (u : Int) ∧ Chg (fun k => k = db) w8 W)) D9.out (fun W9 H9 => ?_)
    clear m2 g2 D9
    have m3 : W9.cell? ⟨db, 3, none⟩ = some (.int .i64 (u : Int)) := H9.out.1.blk.cell 3
    have g3 : W9.frozen? ⟨db, 3, none⟩ = false := H9.out.1.blk.free 3
    go_wp2
    go_ret
    have DA := H9.out.1.own (z' := z) (s' := ((S + b.length : Nat) : Int)) (u' := ((u + b.length : Nat) : Int)) 3 (.int .i64 ((u + b.length : Nat) : Int)) rfl
    have hd8 : g.d = (f).d ++ b := by have := congrArg Fv.d HG.out.vw; rw [add_d] at this; exact this
    refine ⟨rfl, A ++ g :: C, ?_, ?_, ?_, fun k q => ?_⟩
    · have e : sizeF (A ++ g :: C) = S + b.length := by
        rw [sizeF_mid, hd8, hS.out]
        rw [sizeF_mid, List.length_append]; omega
      rw [← e] at DA
      exact DA.1
    · rw [view_upd HD.out.ri HG.out.vw]
      unfold wrV
      rw [get_some HD.out.ri]
    · exact (((Chg.of_below (Ft db mb (A ++ f :: C)) B6.out).trans HG.out.ch fun k q => .inl (ft_mid.2 (.inr q))).trans H9.out.2 fun k q => .inl (.inl q)).trans DA.2 fun k q => .inl (.inl q)
    · rcases ft_mid.1 q with r | r
      · exact .inl (ft_mid.2 (.inl r))
      · rcases HG.out.su k r with p | p
        · exact .inl (ft_mid.2 (.inr p))
        · exact .inr (Nat.le_trans B6.out.size p)
  · have hnot := not_in hA hC
    subst e1
    have HN : Hid (∀ W, Below w.heap.size w W → W.cell? ⟨db, 0, none⟩ = some (.map (some mb)) ∧ (Instr.lookup 88 (.map (some mb)) (.string x) false).run Tryz.prog W = .ok (.pointer none) W ∧ Dk W B db mb (A ++ C) z ((sizeF (A ++ C) : Nat) : Int) (u : Int)) := fun W hW => ⟨(HD.out.below hW).blk.cell 0, flook_none (HD.out.below hW).map hnot hxm, HD.out.below hW⟩
    have HNot := hid hnot
    have HA1 := hid hA
    have HC1 := hid hC
    clear hnot hA hC
    go_enter Tryz.func24, Tryz.ntmps24
    go_upto_region 8 with (first
      | (go_at_call 56; refine HC.out.mono ?_; rintro e w5 ⟨rfl, hb5⟩)
      | (go_at_call 57; refine (HR.out _ hb5).mono ?_; rintro e w6 ⟨rfl, hb6⟩; have B6 := hid (hb5.trans (hb6.mono hb5.size)); clear hb5 hb6; obtain ⟨m0, hl, hd⟩ := HN.out w6 B6.out; have D6 := hid hd; clear hd))
    clear m0 hl HN HC HR
    obtain ⟨fb, hfb⟩ : ∃ fb, w6.heap.size = fb := ⟨_, rfl⟩
    refine wp_ltc (fun W => Hid (Below w.heap.size w W ∧ Dk W B db mb (A ++ C) z ((sizeF (A ++ C) : Nat) : Int) (u : Int) ∧ FlAt W B ⟨x, w6.heap.size, .slice none 0 0, [], 0, .slice none 0 0, [], false⟩ ∧ ∀ k, Ft db mb (A ++ C) k → k < w6.heap.size)) ⟨B6.out.trans ((below_new w6 _).mono B6.out.size), D6.out.below (below_new w6 _), ⟨Nat.le_of_lt (Nat.lt_of_le_of_lt D6.out.lo.1 D6.out.blk.lt), Blk.new w6 102 _, Row.none _ _, ⟨rfl, .inl ⟨rfl, rfl⟩⟩⟩, fun k q => (D6.out.ft q).2⟩ (fun W7 H7 => ?_)
    have hfw : w.heap.size ≤ fb := by rw [← hfb]; exact B6.out.size
    rw [hfb] at H7 ⊢
    have HFW := hid hfw
    clear hfw hfb D6 B6
    have hap : ∀ g ∈ A ++ C, Fl.apart ⟨x, fb, .slice none 0 0, [], 0, .slice none 0 0, [], false⟩ g := fun g hg k q q2 => by
      rcases q with q | q | q
      · have hq : k = fb := q
        have := H7.out.2.2.2 k (.inr (.inr ⟨g, hg, q2⟩))
        omega
      · cases q
      · cases q
    have HP : Hid (Calls Tryz.prog 58 #[.pointer (some ⟨db, 0, none⟩), .string x, .pointer (some ⟨fb, 0, none⟩)] W7 fun e w' => e = .returned (.tuple #[]) ∧ Dk w' B db mb (A ++ ⟨x, fb, .slice none 0 0, [], 0, .slice none 0 0, [], false⟩ :: C) z ((sizeF (A ++ C) : Nat) : Int) (u : Int) ∧ Chg (fun k => k = mb) W7 w') := hid (put_ok H7.out.2.1 H7.out.2.2.1 HA1.out HC1.out hap (by show x.size ≤ _; omega) (by omega))
    clear hap
    go_upto_region 9 with (go_at_call 58; (with_reducible refine HP.out.mono ?_); rintro e w7 ⟨rfl, hd7, hc7⟩; have D7 := hid hd7; have K7 := hid hc7; clear hd7 hc7)
    clear HP
    obtain ⟨f, hf⟩ : ∃ f : Fl, f = ⟨x, fb, .slice none 0 0, [], 0, .slice none 0 0, [], false⟩ := ⟨_, rfl⟩
    have hfd : Hid (f.d.length ≤ S) := by unfold Hid; rw [hf]; exact Nat.zero_le _
    have hf2 : f.b = fb := by rw [hf]
    have hf3 : Hid (f.d = [] ∧ f.v = newV x ∧ f.l = [] ∧ f.n = x ∧ ∀ k, f.has k → k = fb) := by
      unfold Hid
      rw [hf]
      refine ⟨rfl, rfl, rfl, rfl, fun k q => ?_⟩
      rcases q with q | q | q
      · exact q
      · cases q
      · cases q
    rw [← hf] at D7
    clear hf
    rw [← hf2]
    clear hf2
    have B7 : Hid (Below w.heap.size w w7 → True) := fun _ => trivial
    have hSb7 : Hid (SlA w7 (.slice A0 b.length c0) b) := by
      have h1 := hSb.out.below H7.out.1
      obtain ⟨A9, c9, e9, i1, i2, i3, i4⟩ := h1
      refine ⟨A9, c9, e9, i1, i2, fun h0 => ?_, i4⟩
      obtain ⟨bb, off, e8, hh⟩ := i3 h0
      refine ⟨bb, off, e8, fun i hi => ?_⟩
      have hc := hh i hi
      rw [← hc]
      refine World.cell?_of_block (K7.out.block bb (cell_lt hc) fun q => ?_)
      obtain ⟨es, clock, hb2, _⟩ := H7.out.2.1.map
      have q2 : bb = mb := q
      rw [q2] at hc
      simp [World.cell?, hb2] at hc
    have HAd := hid (add_any (f := f) (.slice A0 b.length c0) b u (D7.out.fl _ (by simp)) hSb7.out (by have := hbl.out; have := hfd.out; omega) hu.out (by rw [hf3.out.2.2.1]; exact Nat.zero_le _) (by rw [hf3.out.2.2.1]; intro r hr; cases hr))
    have m3 : w7.cell? ⟨db, 3, none⟩ = some (.int .i64 (u : Int)) := D7.out.blk.cell 3
    go_upto_region 10 with (go_at_call 59; (with_reducible refine HAd.out.mono ?_); rintro e w8 ⟨rfl, g, hg⟩; have HG := hid hg; clear hg)
    have D8 := hid (D7.out.upd HG.out.ch HG.out.sat (by have := congrArg Fv.n HG.out.vw; rw [add_n] at this; exact this) HG.out.bk HG.out.su)
    clear m3 HAd
    have m2 : w8.cell? ⟨db, 2, none⟩ = some (.int .i64 (S : Int)) := by rw [hS.out]; exact D8.out.blk.cell 2
    have g2 : w8.frozen? ⟨db, 2, none⟩ = false := D8.out.blk.free 2
    go_upto_region 11 with (fail)
    have D9 := hid (D8.out.own (z' := z) (s' := ((S + b.length : Nat) : Int)) (u' := (u : Int)) 2 (.int .i64 ((S + b.length : Nat) : Int)) rfl)
    refine wp_ltc (fun W => Hid (Dk W B db mb (A ++ g :: C) z ((S + b.length : Nat) : Int) (u : Int) ∧ Chg (fun k => k = db) w8 W)) D9.out (fun W9 H9 => ?_)
    clear m2 g2 D9
    have m3 : W9.cell? ⟨db, 3, none⟩ = some (.int .i64 (u : Int)) := H9.out.1.blk.cell 3
    have g3 : W9.frozen? ⟨db, 3, none⟩ = false := H9.out.1.blk.free 3
    go_wp2
    go_ret
    have DA := H9.out.1.own (z' := z) (s' := ((S + b.length : Nat) : Int)) (u' := ((u + b.length : Nat) : Int)) 3 (.int .i64 ((u + b.length : Nat) : Int)) rfl
    have hd8 : g.d = (f).d ++ b := by have := congrArg Fv.d HG.out.vw; rw [add_d] at this; exact this
    refine ⟨rfl, A ++ g :: C, ?_, ?_, ?_, fun k q => ?_⟩
    · have e : sizeF (A ++ g :: C) = S + b.length := by
        rw [sizeF_mid, hd8, hS.out]
        rw [hf3.out.1]; simp
      rw [← e] at DA
      exact DA.1
    · rw [view_ins (f := g) (by have := congrArg Fv.n HG.out.vw; rw [add_n] at this; rw [show g.n = x from this.trans hf3.out.2.2.2.1]; exact HA1.out) (by have := congrArg Fv.n HG.out.vw; rw [add_n] at this; rw [show g.n = x from this.trans hf3.out.2.2.2.1]; exact HC1.out), HG.out.vw, hf3.out.2.1]
      unfold wrV
      rw [get_none HNot.out]
    · exact ((((Chg.of_below (Ft db mb (A ++ C)) H7.out.1).trans K7.out fun k q => .inl (.inr (.inl q))).trans HG.out.ch fun k q => .inr (by have := hf3.out.2.2.2.2 k q; have := HFW.out; omega)).trans H9.out.2 fun k q => .inl (.inl q)).trans DA.2 fun k q => .inl (.inl q)
    · rcases ft_mid.1 q with r | r
      · exact .inl r
      · rcases HG.out.su k r with p | p
        · exact .inr (by have := hf3.out.2.2.2.2 k p; have := HFW.out; omega)
        · exact .inr (Nat.le_trans H7.out.1.size (Nat.le_trans K7.out.size p))
end Go.Proofs.YtofkfafdodhmdaaGreatDoor
