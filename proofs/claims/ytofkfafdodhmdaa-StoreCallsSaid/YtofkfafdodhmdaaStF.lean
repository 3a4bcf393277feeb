/- (*store.file).add: bytes at a file's end. Conditions: the file stands; numbers below 2^40. -/
import Derived.Test.YtofkfafdodhmdaaStE
import Derived.Maps.AppendAt
namespace Go.Proofs.Ytofkfafdodhmdaa
open Go.RowKit

/-- Runs, and one more behind them. -/
def addR (l : List (Nat × Nat)) (u n : Nat) : List (Nat × Nat) :=
  match l.getLast? with
  | some r => if r.1 + r.2 = u then l.dropLast ++ [(r.1, r.2 + n)] else l ++ [(u, n)]
  | none => [(u, n)]
theorem addR_snoc (l : List (Nat × Nat)) (a s u n : Nat) : addR (l ++ [(a, s)]) u n = if a + s = u then l ++ [(a, s + n)] else l ++ [(a, s)] ++ [(u, n)] := by
  unfold addR
  simp
theorem addR_nil (u n : Nat) : addR [] u n = [(u, n)] := rfl
def Fv.add (b : List UInt8) (u : Nat) (f : Fv) : Fv := if b = [] then f else { f with d := f.d ++ b, l := addR f.l u b.length }

theorem own_set {w : World} {B sz n g cap : Nat} {T : TypeId} {xs : List Value} (h : w.ownsRow B T sz (.slice (some ⟨g, 0, none⟩) n cap) n xs) (j : Nat) (x : Value) : (w.setCell ⟨g, j, none⟩ x).ownsRow B T sz (.slice (some ⟨g, 0, none⟩) n cap) n (xs.set j x) := by
  refine ⟨by rw [List.length_set]; exact h.1, ?_⟩
  rcases h.2 with ⟨e, _⟩ | ⟨g', cap', cur, e, h1, h2, h3, h4, h5, h6⟩
  · cases e
  · injection e with e1 e2 e3
    injection e1 with e1
    injection e1 with e1
    subst e1 e3
    refine .inr ⟨g, cap, cur.setIfInBounds j x, rfl, h1, Blk.set (T := T) h2 j x, h3, h4, by simp [h5], ?_⟩
    rw [← h6, Array.toList_setIfInBounds, List.take_set]
theorem own_cells {w : World} {B sz n g cap : Nat} {T : TypeId} {xs : List Value} (h : w.ownsRow B T sz (.slice (some ⟨g, 0, none⟩) n cap) n xs) {j : Nat} {x : Value} (hj : xs[j]? = some x) : w.cell? ⟨g, j, none⟩ = some x ∧ w.frozen? ⟨g, j, none⟩ = false := by
  rcases h.2 with ⟨e, _⟩ | ⟨g', cap', cur, e, h1, h2, h3, h4, h5, h6⟩
  · cases e
  · injection e with e1 e2 e3
    injection e1 with e1
    injection e1 with e1
    subst e1 e3
    have hb : Blk w g T cur := h2
    refine ⟨?_, hb.free j⟩
    rw [hb.cell j]
    rw [← h6] at hj
    have hlt : j < n * sz := by
      rcases Nat.lt_or_ge j (n * sz) with q | q
      · exact q
      · rw [List.getElem?_take_eq_none q] at hj; cases hj
    rw [List.getElem?_take_of_lt hlt] at hj
    rw [← hj, Array.getElem?_toList]
theorem info_run : (Try.prog.info? 81).map (fun i => (i.zero, i.size, i.bytes)) = some (some (.agg #[.int .i64 0, .int .i64 0]), 2, 16) := by kernel_rfl

section
variable {ops : Array Oper} {rest : List Oper} {o : Oper} {a : Act} {Q : Exit → Act → World → Prop}
/-- append of some bytes to a row that stands among others. -/
theorem wpList_append_at (hgd : o.guard = Option.none) (s x : Operand)
    (ho : o.op = .call { callee := .builtin .append, args := #[s, x], argTypes := #[32, 32] })
    (w : World) (base : Nat) (v : Value) (l : List UInt8) (hs : a.eval s = v) (hown : Row w base v l)
    (ad : Addr) (c : Nat) (news : List UInt8) (hx : a.eval x = .slice (some ad) news.length c) (h0 : 0 < news.length) (hnews : HoldsA w (some ad) news)
    (hlen : l.length + news.length ≤ 100000000) (hbase : base ≤ w.heap.size)
    (h : ∀ v' w', Row w' base v' (l ++ news) → w.grownBy w' v.ownBlock → (v'.ownBlock = v.ownBlock ∨ v'.ownBlock = some w.heap.size) → wpList Try.prog ops Q rest (a.put o.dst v') w') : wpList Try.prog ops Q (o :: rest) a w := by
  obtain ⟨i0, hi, hz0, hz1, hz2⟩ := info_parts info_u8
  obtain ⟨b, off, e, hh⟩ := hnews h0
  cases e
  refine wpList_append_own_at w hgd s x 32 ho base 5 i0 (.int .u8 0) 1 1 Try.underlying32 hi hz0 hz1 hz2 rfl (by decide) v l.length (bc l) hs hown ⟨b, off, none⟩ news.length c (bc news) hx (by rw [bc_len]; omega) (fun j u hu => ?_) (bc_one _) (by unfold maxLen; omega) (by omega) hbase ?_
  · have hj : j < news.length := by
      rcases Nat.lt_or_ge j news.length with h1 | h1
      · exact h1
      · rw [bc_at, List.getElem?_eq_none h1] at hu; cases hu
    rw [add_zero_off, hh j hj, ← hu, bc_at, List.getElem?_eq_getElem hj, List.getD_eq_getElem?_getD, List.getElem?_eq_getElem hj]
    rfl
  · intro v' w' h1 h2 _ h4
    refine h v' w' ?_ h2 h4
    unfold Row
    rw [bc_app, List.length_append]
    exact h1
/-- append of a run. -/
theorem wpList_append_run1 (hgd : o.guard = Option.none) (s x : Operand)
    (ho : o.op = .call { callee := .builtin .append, args := #[s, x], argTypes := #[74, 74] })
    (w : World) (base : Nat) (v : Value) (l : List (Nat × Nat)) (hs : a.eval s = v) (hown : RRow w base v l)
    (G c : Nat) (y : Nat × Nat) (hx : a.eval x = .slice (some ⟨G, 0, Option.none⟩) 1 c) (hc : ∀ j u, ([.int .i64 (y.1 : Int), .int .i64 (y.2 : Int)] : List Value)[j]? = some u → w.cell? ((⟨G, 0, Option.none⟩ : Addr).add j) = some u)
    (hlen : l.length ≤ 1000000) (hbase : base ≤ w.heap.size)
    (h : ∀ v' w', RRow w' base v' (l ++ [y]) → w.grownBy w' v.ownBlock → (v'.ownBlock = v.ownBlock ∨ v'.ownBlock = some w.heap.size) → wpList Try.prog ops Q rest (a.put o.dst v') w') : wpList Try.prog ops Q (o :: rest) a w := by
  obtain ⟨i0, hi, hz0, hz1, hz2⟩ := info_parts info_run
  refine wpList_append_own_at w hgd s x 74 ho base 81 i0 _ 2 16 Try.underlying74 hi hz0 hz1 hz2 rfl (by decide) v l.length (flatR l) hs hown ⟨G, 0, Option.none⟩ 1 c [.int .i64 (y.1 : Int), .int .i64 (y.2 : Int)] hx rfl hc (fun u hu => by simp at hu; rcases hu with rfl | rfl <;> rfl) (by unfold maxLen; omega) (by omega) hbase ?_
  intro v' w' h1 h2 _ h4
  refine h v' w' ?_ h2 h4
  unfold RRow
  rw [flatR_app, List.length_append]
  exact h1
end

/-- The file with more bytes. -/
def Fl.more (f : Fl) (v : Value) (b : List UInt8) : Fl := { f with dv := v, d := f.d ++ b }
theorem flat_more {w w1 : World} {B : Nat} {f : Fl} {v : Value} {b : List UInt8} (h : FlAt w B f) (hr : Row w1 B v (f.d ++ b)) (hg : w.grownBy w1 f.dv.ownBlock) (hl : v.ownBlock = f.dv.ownBlock ∨ v.ownBlock = some w.heap.size) :
    FlAt (w1.setCell ⟨f.b, 0, none⟩ v) B (f.more v b) ∧ Chg f.has w (w1.setCell ⟨f.b, 0, none⟩ v) ∧ (∀ k, (f.more v b).has k → f.has k ∨ w.heap.size ≤ k) := by
  have nb : ∀ g, f.dv.ownBlock = some g → g ≠ f.b := fun g q => by
    obtain ⟨cur, hc⟩ := own_blk h.row q
    exact blk_ne0 hc h.blk (by decide)
  have b1 : Blk w1 f.b 76 #[f.dv, .int .i64 (f.m : Int), f.lv, .bool f.h] := (hg.block f.b h.blk.lt fun e => nb f.b e.symm rfl).trans h.blk
  have b2 := b1.set 0 v
  have hk : ∀ k, k ≠ f.b → (w1.setCell ⟨f.b, 0, none⟩ v).heap[k]? = w1.heap[k]? := fun k q => Below.heap_setCell _ _ _ _ q
  have hlv : ∀ g, f.lv.ownBlock = some g → w1.heap[g]? = w.heap[g]? ∧ g ≠ f.b := fun g q => by
    obtain ⟨cur, hc⟩ := own_blk h.run q
    refine ⟨hg.block g hc.lt fun e => ?_, blk_ne0 hc h.blk (by decide)⟩
    obtain ⟨cur2, hc2⟩ := own_blk h.row e.symm
    exact blk_ne0 hc hc2 (by decide) rfl
  refine ⟨⟨h.lo, b2, own_block0 hr fun g q => hk g ?_, own_block0 h.run fun g q => (hk g (hlv g q).2).trans (hlv g q).1⟩, (Chg.of_grown (S := f.has) hg fun k e => .inl (.inr (.inl e))).trans (Chg.of_set w1 f.b 0 v (S := f.has) (.inl rfl)) fun k q => .inl q, fun k q => ?_⟩
  · obtain ⟨cur, hc⟩ := own_blk hr q
    exact blk_ne0 hc b1 (by decide)
  · rcases q with q | q | q
    · exact .inl (.inl q)
    · rcases hl with r | r
      · exact .inl (.inr (.inl (r ▸ q)))
      · have q2 : v.ownBlock = some k := q
        rw [r] at q2
        exact .inr (Nat.le_of_eq (Option.some.inj q2))
    · exact .inl (.inr (.inr q))
/-- The file with other runs. -/
def Fl.runs (f : Fl) (v : Value) (l : List (Nat × Nat)) : Fl := { f with lv := v, l := l }
theorem flat_runs {w w1 : World} {B : Nat} {f : Fl} {v : Value} {l : List (Nat × Nat)} (h : FlAt w B f) (hr : RRow w1 B v l) (hg : Chg (fun k => f.lv.ownBlock = some k) w w1) (hl : v.ownBlock = f.lv.ownBlock ∨ ∃ k, v.ownBlock = some k ∧ w.heap.size ≤ k) :
    FlAt (w1.setCell ⟨f.b, 2, none⟩ v) B (f.runs v l) ∧ Chg f.has w (w1.setCell ⟨f.b, 2, none⟩ v) ∧ (∀ k, (f.runs v l).has k → f.has k ∨ w.heap.size ≤ k) := by
  have nb : ∀ g, f.lv.ownBlock = some g → g ≠ f.b := fun g q => by
    obtain ⟨cur, hc⟩ := own_blk h.run q
    exact blk_ne0 hc h.blk (by decide)
  have b1 : Blk w1 f.b 76 #[f.dv, .int .i64 (f.m : Int), f.lv, .bool f.h] := (hg.block f.b h.blk.lt fun e => nb f.b e rfl).trans h.blk
  have b2 := b1.set 2 v
  have hk : ∀ k, k ≠ f.b → (w1.setCell ⟨f.b, 2, none⟩ v).heap[k]? = w1.heap[k]? := fun k q => Below.heap_setCell _ _ _ _ q
  have hdv : ∀ g, f.dv.ownBlock = some g → w1.heap[g]? = w.heap[g]? ∧ g ≠ f.b := fun g q => by
    obtain ⟨cur, hc⟩ := own_blk h.row q
    refine ⟨hg.block g hc.lt fun e => ?_, blk_ne0 hc h.blk (by decide)⟩
    obtain ⟨cur2, hc2⟩ := own_blk h.run e
    exact blk_ne0 hc hc2 (by decide) rfl
  refine ⟨⟨h.lo, b2, own_block0 h.row fun g q => (hk g (hdv g q).2).trans (hdv g q).1, own_block0 hr fun g q => hk g ?_⟩, (hg.mono (S' := f.has) fun k e => .inr (.inr e)).trans (Chg.of_set w1 f.b 2 v (S := f.has) (.inl rfl)) fun k q => .inl q, fun k q => ?_⟩
  · obtain ⟨cur, hc⟩ := own_blk hr q
    exact blk_ne0 hc b1 (by decide)
  · rcases q with q | q | q
    · exact .inl (.inl q)
    · exact .inl (.inr (.inl q))
    · rcases hl with r | ⟨j, r, hj⟩
      · exact .inl (.inr (.inr (r ▸ q)))
      · have q2 : v.ownBlock = some k := q
        rw [r] at q2
        cases q2
        exact .inr hj
theorem flat_last {w : World} {B g cap k : Nat} {f : Fl} {r : List (Nat × Nat)} {a s n : Nat} (h : FlAt w B f) (e : f.lv = .slice (some ⟨g, 0, none⟩) (k + 1) cap) (el : f.l = r ++ [(a, s)]) (ek : r.length = k) :
    FlAt (w.setCell ⟨g, k * 2 + 1, none⟩ (.int .i64 ((s + n : Nat) : Int))) B (f.runs f.lv (r ++ [(a, s + n)])) ∧ Chg f.has w (w.setCell ⟨g, k * 2 + 1, none⟩ (.int .i64 ((s + n : Nat) : Int))) ∧ (∀ k, (f.runs f.lv (r ++ [(a, s + n)])).has k → f.has k ∨ w.heap.size ≤ k) := by
  have hgb : f.lv.ownBlock = some g := by rw [e]; rfl
  have hr : RRow w B (.slice (some ⟨g, 0, none⟩) (k + 1) cap) f.l := by rw [← e]; exact h.run
  have hlen : f.l.length = k + 1 := by rw [el]; simp [ek]
  have hr2 : w.ownsRow B 81 2 (.slice (some ⟨g, 0, none⟩) (k + 1) cap) (k + 1) (flatR f.l) := by rw [← hlen]; rw [hlen]; have := hr; unfold RRow at this; rw [hlen] at this; exact this
  have h2 := own_set hr2 (k * 2 + 1) (.int .i64 ((s + n : Nat) : Int))
  have es : (flatR f.l).set (k * 2 + 1) (.int .i64 ((s + n : Nat) : Int)) = flatR (r ++ [(a, s + n)]) := by
    rw [el, flatR_app, flatR_app, List.set_append_right _ _ (by rw [flatR_len]; omega), flatR_len, ek, show k * 2 + 1 - k * 2 = 1 by omega]
    rfl
  rw [es] at h2
  have nb : g ≠ f.b := by
    obtain ⟨cur, hc⟩ := own_blk h.run hgb
    exact blk_ne0 hc h.blk (by decide)
  have hk : ∀ j, j ≠ g → (w.setCell ⟨g, k * 2 + 1, none⟩ (.int .i64 ((s + n : Nat) : Int))).heap[j]? = w.heap[j]? := fun j q => Below.heap_setCell _ _ _ _ q
  refine ⟨⟨h.lo, (hk f.b nb.symm).trans h.blk, own_block0 h.row fun j q => hk j ?_, ?_⟩, Chg.of_set w g _ _ (S := f.has) (.inr (.inr hgb)), fun j q => .inl q⟩
  · obtain ⟨cur, hc⟩ := own_blk h.row q
    obtain ⟨cur2, hc2⟩ := own_blk h.run hgb
    exact blk_ne0 hc hc2 (by decide)
  · show RRow _ B f.lv (r ++ [(a, s + n)])
    unfold RRow
    rw [e, show (r ++ [(a, s + n)]).length = k + 1 by simp [ek]]
    exact h2
end Go.Proofs.Ytofkfafdodhmdaa
