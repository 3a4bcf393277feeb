/- What Store's laws lean on: the disk of a law, rows of slices, a second crash. Conditions: none. -/
import Derived.Test.YtofkfafdodhmdaaStS
import Derived.Test.YtofkfafdodhmdaaSOa
import Derived.Test.YtofkfafdodhmdaaRBb
namespace Go.Proofs.Ytofkfafdodhmdaa
open Go.RowKit

/-- The disk of a law, behind i calls. -/
structure LwS (w W : World) (B db mb : Nat) (fs : List Fl) (z : Int) (u i : Nat) : Prop where
  dk : DkAt W B db mb fs z (u : Int)
  gd : GoodV (viewF fs) z u i
  b : Below w.heap.size w W
  lo : w.heap.size ≤ B
theorem LwS.below {w W W' : World} {B db mb : Nat} {fs : List Fl} {z : Int} {u i : Nat} (h : LwS w W B db mb fs z u i) (hb : Below W.heap.size W W') : LwS w W' B db mb fs z u i := ⟨h.dk.below hb, h.gd, h.b.trans (hb.mono h.b.size), h.lo⟩
theorem LwS.turn {w W W' : World} {B db mb : Nat} {fs fs' : List Fl} {z : Int} {u u' i : Nat} {c : Cl} {q : Int} (h : LwS w W B db mb fs z u i) (hE : DoE W W' B db mb z i c q fs u fs' u') : LwS w W' B db mb fs' z u' (i + 1) :=
  ⟨hE.dk, hE.good, chg_low hE.ch h.b fun _ q => Nat.le_trans h.lo (h.dk.ft q).1, h.lo⟩
theorem lws_start {w W W' : World} {z : Int} (hb : Below w.heap.size w W) (hz : 0 ≤ z) (h : DkAt W' W.heap.size (W.heap.size + 1) W.heap.size [] z 0) (hb2 : Below W.heap.size W W') : LwS w W' W.heap.size (W.heap.size + 1) W.heap.size [] z 0 0 :=
  ⟨h, good_nil z hz, hb.trans (hb2.mono hb.size), hb.size⟩
/-- A call's words, where it stands among the calls. -/
theorem cl_do {w W : World} {B db mb : Nat} {fs : List Fl} {z : Int} {u i : Nat} (h : LwS w W B db mb fs z u i) (hi : i ≤ 1000) (hz : 0 ≤ z ∧ z ≤ 16777216) (c : Cl) (hc : c.ok) (hd : SlA W c.dv c.d) :
    Calls Try.prog 12 #[.pointer (some ⟨db, 0, none⟩), .agg #[.int .i64 c.wh, .string c.nm, .string c.tg, c.dv, .int .i64 c.n]] W fun e w' => ∃ q fs' u', e = .returned (.int .i64 q) ∧ DoE W w' B db mb z i c q fs u fs' u' ∧ LwS w w' B db mb fs' z u' (i + 1) :=
  (do_any c hc h.dk h.gd hi hz hd).mono fun _ _ ⟨q, fs', u', e, hE⟩ => ⟨q, fs', u', e, hE, h.turn hE⟩
/-- Nothing is loose. -/
def Firm (fs : List Fl) : Prop := ∀ f ∈ fs, f.l = [] ∧ f.m = f.d.length ∧ keepB f = true
theorem firm_crash {fs : List Fl} {z : Int} {u i : Nat} {l : List Pc} {K : Int} (h : GoodV (viewF (((fs.map (mF l K)).filter keepB).map cutF)) z u i) : Firm (((fs.map (mF l K)).filter keepB).map cutF) := fun f hf => by
  have h1 := (h.fl f.v (List.mem_map_of_mem hf)).ok
  obtain ⟨g, hg, rfl⟩ := List.mem_map.1 hf
  refine ⟨rfl, ?_, ?_⟩
  · have h2 : (cutF g).m + 0 = (cutF g).d.length := h1
    omega
  · have := (List.mem_filter.1 hg).2
    exact this
theorem firm_all {fs : List Fl} (h : Firm fs) : allP fs = [] := by
  unfold allP
  rw [List.flatMap_eq_nil_iff]
  intro f hf
  unfold pcsF
  rw [(h f hf).1]
  rfl
/-- A second crash turns no file's bytes. -/
theorem firm_again {fs : List Fl} (h : Firm fs) {l : List Pc} (hl : l.Perm (allP fs)) (K : Int) : viewF (((fs.map (mF l K)).filter keepB).map cutF) = viewF fs := by
  rw [firm_all h] at hl
  have e : l = [] := hl.eq_nil
  subst e
  have e1 : fs.map (mF [] K) = fs := by rw [show mF [] K = id from rfl, List.map_id]
  have e2 : fs.filter keepB = fs := List.filter_eq_self.2 fun f hf => (h f hf).2.2
  rw [e1, e2]
  unfold viewF
  rw [List.map_map]
  refine List.map_congr_left fun f hf => ?_
  obtain ⟨a1, a2, _⟩ := h f hf
  show (⟨f.n, f.d.take f.m, f.m, [], f.h⟩ : Fv) = ⟨f.n, f.d, f.m, f.l, f.h⟩
  rw [a1, a2, List.take_length]
theorem view_names {fs gs : List Fl} (h : viewF fs = viewF gs) : fs.map Fl.n = gs.map Fl.n := by
  have : (viewF fs).map Fv.n = (viewF gs).map Fv.n := by rw [h]
  unfold viewF at this
  rw [List.map_map, List.map_map] at this
  exact this
theorem view_dat {fs gs : List Fl} (h : viewF fs = viewF gs) {i : Nat} (hi : i < fs.length) (hj : i < gs.length) : fs[i].n = gs[i].n ∧ fs[i].d = gs[i].d := by
  have h1 : (viewF fs)[i]? = (viewF gs)[i]? := by rw [h]
  unfold viewF at h1
  rw [List.getElem?_map, List.getElem?_map, List.getElem?_eq_getElem hi, List.getElem?_eq_getElem hj] at h1
  have h2 : fs[i].v = gs[i].v := Option.some.inj h1
  exact ⟨congrArg Fv.n h2, congrArg Fv.d h2⟩
theorem read_at {W : World} {B db mb : Nat} {fs : List Fl} {z u : Int} (h : DkAt W B db mb fs z u) {i : Nat} (hi : i < fs.length) (hs : fs[i].n.size ≤ maxLen) (hd2 : fs[i].d.length ≤ 1000000) :
    Calls Try.prog 26 #[.pointer (some ⟨db, 0, none⟩), .string fs[i].n] W fun e w' => ∃ v, e = .returned (.tuple #[v, .bool true]) ∧ Row w' W.heap.size v fs[i].d ∧ Below W.heap.size W w' := by
  have e : fs = fs.take i ++ fs[i] :: fs.drop (i + 1) := by simp
  have h2 : DkAt W B db mb (fs.take i ++ fs[i] :: fs.drop (i + 1)) z u := by rw [← e]; exact h
  exact read_some h2 hs hd2
theorem info_sl : (Try.prog.info? 32).map (fun i => (i.zero, i.size, i.bytes)) = some (some (.slice none 0 0), 1, 24) := by kernel_rfl
/-- A row of slices of bytes, each in a row from N on. -/
def ORow (w : World) (N : Nat) (v : Value) (ls : List (List UInt8)) : Prop := ∃ vs : List Value, vs.length = ls.length ∧ w.ownsRow N 32 1 v ls.length vs ∧ ∀ i (h : i < vs.length) (h2 : i < ls.length), Row w N vs[i] ls[i]
theorem row_blk {w w' : World} {N : Nat} {v : Value} {l : List UInt8} (h : Row w N v l) (hk : ∀ k, N ≤ k → k < w.heap.size → w'.heap[k]? = w.heap[k]?) : Row w' N v l := own_block0 h fun g q => hk g (World.ownsRow.lt h g q).1 (World.ownsRow.lt h g q).2
theorem ORow.keep {w w' : World} {N : Nat} {v : Value} {ls : List (List UInt8)} (h : ORow w N v ls) (hk : ∀ k, N ≤ k → k < w.heap.size → w'.heap[k]? = w.heap[k]?) : ORow w' N v ls := by
  obtain ⟨vs, h1, h2, h3⟩ := h
  exact ⟨vs, h1, own_block0 h2 fun g q => hk g (World.ownsRow.lt h2 g q).1 (World.ownsRow.lt h2 g q).2, fun i hi hj => row_blk (h3 i hi hj) hk⟩
theorem ORow.below {w w' : World} {N : Nat} {v : Value} {ls : List (List UInt8)} (h : ORow w N v ls) (hb : Below w.heap.size w w') : ORow w' N v ls := h.keep fun k _ q => hb.block k q
theorem orow_form {w : World} {N : Nat} {v : Value} {ls : List (List UInt8)} (h : ORow w N v ls) : ∃ A c, v = .slice A ls.length c := by
  obtain ⟨vs, _, h2, _⟩ := h
  rcases h2.2 with ⟨e, e2⟩ | ⟨g, cap, _, e, _⟩
  · exact ⟨none, 0, by rw [e, e2]⟩
  · exact ⟨_, cap, e⟩
theorem orow_start (w : World) (N : Nat) (hN : N ≤ w.heap.size) : ORow (w.alloc (.cells #[] 32)) N (.slice (some ⟨w.heap.size, 0, none⟩) 0 0) [] :=
  ⟨[], rfl, ⟨rfl, .inr ⟨w.heap.size, 0, #[], rfl, hN, heap_alloc_new w _, Nat.le_refl _, Nat.zero_le _, rfl, rfl⟩⟩, fun i hi => absurd hi (by simp)⟩
/-- An element of the row. -/
theorem orow_at {w : World} {N : Nat} {A : Option Addr} {n c : Nat} {ls : List (List UInt8)} (h : ORow w N (.slice A n c) ls) {i : Nat} (hi : i < ls.length) : ∃ g A1 c1, A = some ⟨g, 0, none⟩ ∧ w.cell? ⟨g, i, none⟩ = some (.slice A1 ls[i].length c1) ∧ SlA w (.slice A1 ls[i].length c1) ls[i] := by
  obtain ⟨vs, h1, h2, h3⟩ := h
  have hiv : i < vs.length := by omega
  have hr := h3 i hiv hi
  obtain ⟨A1, c1, e1, _⟩ := hr.sla
  rcases h2.2 with ⟨_, e2⟩ | ⟨g, cap, cur, e, _⟩
  · omega
  · injection e with e3 e4 e5
    subst e3 e4 e5
    refine ⟨g, A1, c1, rfl, ?_, by rw [← e1]; exact hr.sla⟩
    rw [← e1]
    exact (own_cells h2 (List.getElem?_eq_getElem hiv)).1
section
variable {ops : Array Oper} {rest : List Oper} {o : Oper} {a : Act} {Q : Exit → Act → World → Prop}
/-- append of a slice of bytes. -/
theorem wpList_append_sl (hgd : o.guard = Option.none) (s x : Operand)
    (ho : o.op = .call { callee := .builtin .append, args := #[s, x], argTypes := #[54, 54] })
    (w : World) (N : Nat) (v : Value) (ls : List (List UInt8)) (hs : a.eval s = v) (hown : ORow w N v ls)
    (G c : Nat) (y : Value) (l : List UInt8) (hx : a.eval x = .slice (some ⟨G, 0, Option.none⟩) 1 c) (hc : w.cell? ⟨G, 0, Option.none⟩ = some y) (h1 : y.oneCell' = true) (hy : Row w N y l)
    (hlen : ls.length ≤ 1000000) (hbase : N ≤ w.heap.size)
    (h : ∀ v' w', ORow w' N v' (ls ++ [l]) → w.grownBy w' v.ownBlock → wpList Try.prog ops Q rest (a.put o.dst v') w') : wpList Try.prog ops Q (o :: rest) a w := by
  obtain ⟨i0, hi, hz0, hz1, hz2⟩ := info_parts info_sl
  obtain ⟨vs, k1, k2, k3⟩ := hown
  refine wpList_append_own_at w hgd s x 54 ho N 32 i0 _ 1 24 Try.underlying54 hi hz0 hz1 hz2 rfl (by decide) v ls.length vs hs k2 ⟨G, 0, Option.none⟩ 1 c [y] hx rfl (fun j u hj => by
    match j, hj with
    | 0, hj => simp at hj; subst hj; exact hc) (fun u hu => by simp at hu; subst hu; exact h1) (by unfold maxLen; omega) (by omega) hbase ?_
  intro v' w' r1 r2 _ _
  refine h v' w' ⟨vs ++ [y], by simp [k1], by rw [List.length_append]; exact r1, fun i hi hj => ?_⟩ r2
  have keep : ∀ (u : Value) (m : List UInt8), Row w N u m → Row w' N u m := fun u m hr => own_block0 hr fun g q => r2.block g (World.ownsRow.lt hr g q).2 fun e => by
    obtain ⟨cur, hc1⟩ := own_blk hr q
    obtain ⟨cur2, hc2⟩ := own_blk k2 e.symm
    exact blk_ne0 hc1 hc2 (by decide) rfl
  rcases Nat.lt_or_ge i vs.length with q | q
  · rw [List.getElem_append_left q, List.getElem_append_left (by omega)]
    exact keep _ _ (k3 i q (by omega))
  · have e1 : i = vs.length := by simp at hi; omega
    subst e1
    rw [List.getElem_append_right (Nat.le_refl _), List.getElem_append_right (by omega)]
    simp only [Nat.sub_self, List.getElem_cons_zero, k1]
    exact keep y l hy
end
end Go.Proofs.Ytofkfafdodhmdaa
