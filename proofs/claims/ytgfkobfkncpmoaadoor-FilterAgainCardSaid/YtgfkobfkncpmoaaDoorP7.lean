/- Several texts in one: HA HB HFa HBa. Conditions: as each theorem names them. -/
import Derived.Test.YtgfkobfkncpmoaaDoorP5
import Derived.Test.YtgfkobfkncpmoaaDoorP4
import Derived.Test.YtgfkobfkncpmoaaDoorP2
import Derived.Shelf.SlSortCmp.KitK
import Derived.Test.YtgfkobfkncpmoaaDoorP6
import Derived.Deep.QuietTactic
import Derived.BigQuiet
import Derived.Deep.RegionHeld3
import Derived.RegionTactic
import Derived.Deep.DeepCutAuto
/- Cells as values, slices of cells in memory: rows of the call's own, appending to them. Conditions: as each theorem names them. -/
namespace Go.Proofs.YtgfkobfkncpmoaaDoor
open Go.RowKit

/-- A cell. -/
structure CT where
  r : ByteArray
  f : ByteArray
  q : ByteArray
  t : Int
  k : Int
  vk : Int
  vn : Int
  s : ByteArray
instance : Inhabited CT := ⟨⟨⟨#[]⟩, ⟨#[]⟩, ⟨#[]⟩, 0, 0, 0, 0, ⟨#[]⟩⟩⟩
/-- Its eight words. -/
def CT.e (c : CT) : List Value := [.string c.r, .string c.f, .string c.q, .int .i64 c.t, .int .i64 c.k, .int .i64 c.vk, .int .i64 c.vn, .string c.s]
abbrev CT.v (c : CT) : Value := cellV c.r c.f c.q c.t c.k c.vk c.vn c.s
theorem CT.e_len (c : CT) : c.e.length = 8 := rfl
theorem CT.e_one (c : CT) : ∀ u ∈ c.e, u.oneCell' = true := by
  intro u hu
  simp only [CT.e, List.mem_cons, List.not_mem_nil, or_false] at hu
  rcases hu with rfl | rfl | rfl | rfl | rfl | rfl | rfl | rfl <;> rfl

/-- The words of a list of cells. -/
def flatC : List CT → List Value
  | [] => []
  | c :: l => c.e ++ flatC l
theorem flatC_len : ∀ l : List CT, (flatC l).length = l.length * 8
  | [] => rfl
  | c :: l => by
    show (c.e ++ flatC l).length = (l.length + 1) * 8
    rw [List.length_append, CT.e_len, flatC_len l]; omega
theorem flatC_app : ∀ l m : List CT, flatC (l ++ m) = flatC l ++ flatC m
  | [], _ => rfl
  | c :: l, m => by
    show c.e ++ flatC (l ++ m) = (c.e ++ flatC l) ++ flatC m
    rw [flatC_app l m, List.append_assoc]
theorem flatC_one (c : CT) : flatC [c] = c.e := by show c.e ++ [] = c.e; rw [List.append_nil]
theorem flatC_at : ∀ (l : List CT) (i j : Nat) (h : i < l.length), j < 8 → (flatC l)[i * 8 + j]? = l[i].e[j]?
  | c :: l, 0, j, _, hj => by
    show (c.e ++ flatC l)[0 * 8 + j]? = c.e[j]?
    rw [Nat.zero_mul, Nat.zero_add, List.getElem?_append_left (by rw [CT.e_len]; exact hj)]
  | c :: l, i + 1, j, h, hj => by
    show (c.e ++ flatC l)[(i + 1) * 8 + j]? = _
    rw [List.getElem?_append_right (by rw [CT.e_len]; omega), CT.e_len, show (i + 1) * 8 + j - 8 = i * 8 + j by omega]
    exact flatC_at l i j (by simpa using h) hj

/-- The words of l stand from a place on. -/
def HC (w : World) (b off : Nat) (l : List CT) : Prop := ∀ i (h : i < l.length), ∀ j, j < 8 → w.cell? ⟨b, off + i * 8 + j, none⟩ = l[i].e[j]?
theorem HC.lt {w : World} {b off : Nat} {l : List CT} (h : HC w b off l) (h0 : 0 < l.length) : b < w.heap.size := by
  have := h 0 h0 0 (by omega)
  exact cell_lt (v := .string l[0].r) this
theorem HC.below {w w' : World} {B b off : Nat} {l : List CT} (h : HC w b off l) (hb : Below B w w') (hB : b < B) : HC w' b off l := fun i hi j hj => by
  rw [hb.cell (p := ⟨b, off + i * 8 + j, none⟩) hB]; exact h i hi j hj
theorem HC.words {w : World} {b off : Nat} {l : List CT} (h : HC w b off l) (i : Nat) (hi : i < l.length) :
    w.cell? ⟨b, off + i * 8, none⟩ = some (.string l[i].r) ∧ w.cell? ⟨b, off + i * 8 + 1, none⟩ = some (.string l[i].f) ∧ w.cell? ⟨b, off + i * 8 + 2, none⟩ = some (.string l[i].q) ∧ w.cell? ⟨b, off + i * 8 + 3, none⟩ = some (.int .i64 l[i].t) ∧ w.cell? ⟨b, off + i * 8 + 4, none⟩ = some (.int .i64 l[i].k) ∧ w.cell? ⟨b, off + i * 8 + 5, none⟩ = some (.int .i64 l[i].vk) ∧ w.cell? ⟨b, off + i * 8 + 6, none⟩ = some (.int .i64 l[i].vn) ∧ w.cell? ⟨b, off + i * 8 + 7, none⟩ = some (.string l[i].s) :=
  ⟨h i hi 0 (by omega), h i hi 1 (by omega), h i hi 2 (by omega), h i hi 3 (by omega), h i hi 4 (by omega), h i hi 5 (by omega), h i hi 6 (by omega), h i hi 7 (by omega)⟩
theorem HC.drop {w : World} {b off : Nat} {l : List CT} (h : HC w b off l) (k : Nat) : HC w b (off + k * 8) (l.drop k) := fun i hi j hj => by
  rw [List.length_drop] at hi
  have := h (k + i) (by omega) j hj
  rw [show off + k * 8 + i * 8 + j = off + (k + i) * 8 + j by omega, this, List.getElem_drop]

/-- The value is a slice that holds the cells l. -/
def ClA (w : World) (v : Value) (l : List CT) : Prop := ∃ A c, v = .slice A l.length c ∧ l.length ≤ c ∧ c ≤ 9223372036854775807 ∧ (0 < l.length → ∃ b off, A = some ⟨b, off, none⟩ ∧ HC w b off l)
theorem ClA.below {w w' : World} {v : Value} {l : List CT} (h : ClA w v l) (hb : Below w.heap.size w w') : ClA w' v l := by
  obtain ⟨A, c, h1, h2, h3, h4⟩ := h
  refine ⟨A, c, h1, h2, h3, fun h0 => ?_⟩
  obtain ⟨b, off, e, hh⟩ := h4 h0
  exact ⟨b, off, e, hh.below hb (hh.lt h0)⟩
theorem cla_nil (w : World) : ClA w (.slice none 0 0) [] := ⟨none, 0, rfl, by simp, by omega, fun h => absurd h (by simp)⟩

/-- A row of the call's own that holds the cells l. -/
def CRow (w : World) (B : Nat) (v : Value) (l : List CT) : Prop := w.ownsRow B 28 8 v l.length (flatC l)
theorem CRow.none (w : World) (B : Nat) : CRow w B (.slice none 0 0) [] := ⟨rfl, .inl ⟨rfl, rfl⟩⟩
theorem CRow.hc {w : World} {B g n c : Nat} {l : List CT} (h : CRow w B (.slice (some ⟨g, 0, Option.none⟩) n c) l) : HC w g 0 l := fun i hi j hj => by
  have hc := World.ownsRow.cells h (g := g) rfl (i * 8 + j)
  rw [flatC_at l i j hi hj] at hc
  have hj2 : j < l[i].e.length := by rw [CT.e_len]; exact hj
  have := hc l[i].e[j] (List.getElem?_eq_getElem hj2)
  rw [add_zero_off, Nat.zero_add] at this
  rw [List.getElem?_eq_getElem hj2, Nat.zero_add]
  exact this
theorem CRow.len {w : World} {B : Nat} {v : Value} {l : List CT} (h : CRow w B v l) : ∃ A c, v = .slice A l.length c ∧ l.length ≤ c ∧ c ≤ 9223372036854775807 := by
  rcases h.2 with ⟨e, hz⟩ | ⟨g, cap, cur, e, _, _, h1, h2, _⟩
  · exact ⟨Option.none, 0, by rw [e, hz], by omega, by omega⟩
  · exact ⟨_, cap, e, h1, by unfold maxLen at h2; omega⟩
theorem CRow.cla {w : World} {B : Nat} {v : Value} {l : List CT} (h : CRow w B v l) : ClA w v l := by
  have h' := h
  rcases h.2 with ⟨e, hz⟩ | ⟨g, cap, cur, e, _, _, h1, h2, _⟩
  · have e0 : l = [] := List.eq_nil_of_length_eq_zero hz
    subst e0 e
    exact cla_nil w
  · subst e
    exact ⟨_, cap, rfl, h1, by unfold maxLen at h2; omega, fun _ => ⟨g, 0, rfl, h'.hc⟩⟩
theorem CRow.le {w : World} {B B' : Nat} {v : Value} {l : List CT} (h : CRow w B v l) (hB : B' ≤ B) : CRow w B' v l := by
  refine ⟨h.1, ?_⟩
  rcases h.2 with h | ⟨g, cap, cur, e, hb, hr⟩
  · exact .inl h
  · exact .inr ⟨g, cap, cur, e, Nat.le_trans hB hb, hr⟩
theorem CRow.below {w w' : World} {B : Nat} {v : Value} {l : List CT} (h : CRow w B v l) (hb : Below w.heap.size w w') : CRow w' B v l := by
  refine ⟨h.1, ?_⟩
  rcases h.2 with h | ⟨g, cap, cur, e, h1, h2, hr⟩
  · exact .inl h
  · have hg : g < w.heap.size := by
      rcases Nat.lt_or_ge g w.heap.size with h' | h'
      · exact h'
      · rw [Array.getElem?_eq_none h'] at h2; cases h2
    exact .inr ⟨g, cap, cur, e, h1, by rw [hb.block g hg]; exact h2, hr⟩

theorem info_cell : (Tryd.prog.info? 28).map (fun i => (i.zero, i.size, i.bytes)) = some (some (.agg #[.string ⟨#[]⟩, .string ⟨#[]⟩, .string ⟨#[]⟩, .int .i64 0, .int .i64 0, .int .i64 0, .int .i64 0, .string ⟨#[]⟩]), 8, 96) := by kernel_rfl

section
variable {ops : Array Oper} {rest : List Oper} {o : Oper} {a : Act} {Q : Exit → Act → World → Prop}
/-- append of one cell to a row of the call's own. -/
theorem wpList_append_cell (hgd : o.guard = Option.none) (s x : Operand)
    (ho : o.op = .call { callee := .builtin .append, args := #[s, x], argTypes := #[39, 39] })
    (w : World) (base : Nat) (v : Value) (l : List CT) (hs : a.eval s = v) (hown : CRow w base v l)
    (G : Nat) (m : Nat) (hx : a.eval x = .slice (some ⟨G, 0, Option.none⟩) 1 m) (y : CT) (hc : ∀ j u, y.e[j]? = some u → w.cell? ((⟨G, 0, Option.none⟩ : Addr).add j) = some u)
    (hlen : l.length ≤ 100000) (hbase : base ≤ w.heap.size)
    (h : ∀ v' w', CRow w' base v' (l ++ [y]) → Below base w w' → w.grownBy w' v.ownBlock → wpList Tryd.prog ops Q rest (a.put o.dst v') w') : wpList Tryd.prog ops Q (o :: rest) a w := by
  obtain ⟨i0, hi, hz0, hz1, hz2⟩ := info_parts info_cell
  refine wpList_append_own w hgd s x 39 ho base 28 i0 _ 8 96 Tryd.underlying39 hi hz0 hz1 hz2 rfl (by decide) v l.length (flatC l) hs hown ⟨G, 0, Option.none⟩ 1 m y.e hx (CT.e_len y) hc y.e_one (by unfold maxLen; omega) (by omega) hbase ?_
  intro v' w' h1 h2 _
  refine h v' w' ?_ ((Below.refl _ _).grown h2 hbase fun k hk => (World.ownsRow.lt hown k hk).1) h2
  unfold CRow
  rw [flatC_app, flatC_one, List.length_append]
  exact h1
end
/-- A cell in a new block. -/
theorem ct_new (c : CT) (W : World) (T : TypeId) : ∀ j u, c.e[j]? = some u → (W.alloc (.cells #[.string c.r, .string c.f, .string c.q, .int .i64 c.t, .int .i64 c.k, .int .i64 c.vk, .int .i64 c.vn, .string c.s] T)).cell? ((⟨W.heap.size, 0, none⟩ : Addr).add j) = some u := fun j u hu => by
  rw [add_zero_off, Nat.zero_add, (Blk.new W T _).cell j, ← hu]
  show c.e.toArray[j]? = _
  rw [List.getElem?_toArray]
end Go.Proofs.YtgfkobfkncpmoaaDoor

/- codec.Order at every two cells, the world told as it was but for draws and new blocks; cells are in a strict weak order. Conditions: none. -/
namespace Go.Proofs.YtgfkobfkncpmoaaDoor
open Go.RowKit

/-- As it was, but for draws and new blocks. -/
def Gr (w w' : World) : Prop := ∃ n os, w' = Go.Sort.grow (w.drewN n) os
theorem Gr.refl (w : World) : Gr w w := ⟨0, #[], (Go.Sort.grow_empty _).symm⟩
theorem Gr.trans {a b c : World} (h : Gr a b) (k : Gr b c) : Gr a c := by
  obtain ⟨n, os, rfl⟩ := h
  obtain ⟨q, os', rfl⟩ := k
  exact ⟨n + q, os ++ os', by show Go.Sort.grow (Go.Sort.grow ((a.drewN n).drewN q) os) os' = _; rw [Go.Sort.grow_grow, World.drewN_drewN]⟩
theorem Gr.drew {a b : World} (h : Gr a b) : Gr a b.drew := by
  obtain ⟨n, os, rfl⟩ := h
  exact ⟨n + 1, os, by show Go.Sort.grow ((a.drewN n).drew) os = _; rfl⟩
theorem Gr.new (w : World) (o : Obj) : Gr w (w.alloc o) := ⟨0, #[o], by rw [Go.Sort.alloc_eq_grow]; rfl⟩
theorem Gr.alloc {a b : World} (h : Gr a b) (o : Obj) : Gr a (b.alloc o) := h.trans (Gr.new b o)
theorem Gr.below {a b : World} (h : Gr a b) : Below a.heap.size a b := by
  obtain ⟨n, os, rfl⟩ := h
  exact ⟨rfl, rfl, rfl, by rw [Go.Sort.size_grow]; exact Nat.le_add_right _ _, fun k hk => Go.Sort.heap_grow_old _ _ hk⟩

set_option maxHeartbeats 1000000 in
theorem crank_gr (r f q vs : ByteArray) (t k vk vn : Int) (w : World) :
    Calls Tryd.prog 147 #[cellV r f q t k vk vn vs] w fun e w' => e = .returned (.int .i64 (rankC k)) ∧ Gr w w' := by
  unfold rankC
  by_cases h : k = 4
  · subst h
    rw [if_pos rfl]
    go_enter Tryd.func147, Tryd.ntmps147
    go_wp2
    go_ret
    exact ⟨rfl, Gr.new _ _⟩
  · rw [if_neg h]
    have h0 : (k == 4) = false := by simpa using h
    go_enter Tryd.func147, Tryd.ntmps147
    go_wp2
    go_ret
    exact ⟨rfl, Gr.new _ _⟩

/-- Two cells in blocks of the call's own. -/
abbrev TwoG (w : World) (r1 f1 q1 s1 : ByteArray) (t1 k1 vk1 vn1 : Int) (r2 f2 q2 s2 : ByteArray) (t2 k2 vk2 vn2 : Int) (w' : World) : Prop :=
  Hid (Gr w w' ∧ w.heap.size + 1 < w'.heap.size) ∧ w'.cell? ⟨w.heap.size, 0, none⟩ = some (.string r1) ∧ w'.cell? ⟨w.heap.size, 1, none⟩ = some (.string f1) ∧ w'.cell? ⟨w.heap.size, 2, none⟩ = some (.string q1) ∧ w'.cell? ⟨w.heap.size, 3, none⟩ = some (.int .i64 t1) ∧ w'.cell? ⟨w.heap.size, 4, none⟩ = some (.int .i64 k1) ∧ w'.cell? ⟨w.heap.size, 5, none⟩ = some (.int .i64 vk1) ∧ w'.cell? ⟨w.heap.size, 6, none⟩ = some (.int .i64 vn1) ∧ w'.cell? ⟨w.heap.size, 7, none⟩ = some (.string s1) ∧ w'.cell? ⟨w.heap.size + 1, 0, none⟩ = some (.string r2) ∧ w'.cell? ⟨w.heap.size + 1, 1, none⟩ = some (.string f2) ∧ w'.cell? ⟨w.heap.size + 1, 2, none⟩ = some (.string q2) ∧ w'.cell? ⟨w.heap.size + 1, 3, none⟩ = some (.int .i64 t2) ∧ w'.cell? ⟨w.heap.size + 1, 4, none⟩ = some (.int .i64 k2) ∧ w'.cell? ⟨w.heap.size + 1, 5, none⟩ = some (.int .i64 vk2) ∧ w'.cell? ⟨w.heap.size + 1, 6, none⟩ = some (.int .i64 vn2) ∧ w'.cell? ⟨w.heap.size + 1, 7, none⟩ = some (.string s2)
section
variable {w W W' : World} {r1 f1 q1 s1 r2 f2 q2 s2 : ByteArray} {t1 k1 vk1 vn1 t2 k2 vk2 vn2 : Int}
theorem twog_call (h : TwoG w r1 f1 q1 s1 t1 k1 vk1 vn1 r2 f2 q2 s2 t2 k2 vk2 vn2 W) (hb : Gr W W') : TwoG w r1 f1 q1 s1 t1 k1 vk1 vn1 r2 f2 q2 s2 t2 k2 vk2 vn2 W' := by
  obtain ⟨hh, a0, a1, a2, a3, a4, a5, a6, a7, a8, a9, a10, a11, a12, a13, a14, a15⟩ := h
  obtain ⟨hbw, hz⟩ := hh.out
  have hc : ∀ b o, b ≤ w.heap.size + 1 → W'.cell? ⟨b, o, none⟩ = W.cell? ⟨b, o, none⟩ := fun b o h => hb.below.cell (p := ⟨b, o, none⟩) (show b < W.heap.size by omega)
  refine ⟨hid ⟨hbw.trans hb, Nat.lt_of_lt_of_le hz hb.below.size⟩, ?_, ?_, ?_, ?_, ?_, ?_, ?_, ?_, ?_, ?_, ?_, ?_, ?_, ?_, ?_, ?_⟩ <;> (rw [hc _ _ (by omega)]; assumption)
theorem twog_drew (h : TwoG w r1 f1 q1 s1 t1 k1 vk1 vn1 r2 f2 q2 s2 t2 k2 vk2 vn2 W) : TwoG w r1 f1 q1 s1 t1 k1 vk1 vn1 r2 f2 q2 s2 t2 k2 vk2 vn2 W.drew := by
  obtain ⟨hh, h⟩ := h
  exact ⟨hid ⟨hh.out.1.drew, hh.out.2⟩, h⟩
end
theorem or6g (x1 x2 x3 x4 x5 x6 : Int) (W : World) (T : TypeId) :
    Calls Tryd.prog 144 #[.slice (some ⟨W.heap.size, 0, none⟩) 6 6] (W.alloc (.cells #[.int .i64 x1, .int .i64 x2, .int .i64 x3, .int .i64 x4, .int .i64 x5, .int .i64 x6] T)) fun e w' => e = .returned (.int .i64 (orI [x1, x2, x3, x4, x5, x6])) ∧ Gr (W.alloc (.cells #[.int .i64 x1, .int .i64 x2, .int .i64 x3, .int .i64 x4, .int .i64 x5, .int .i64 x6] T)) w' := by
  refine (or_any W.heap.size 6 (by decide) [x1, x2, x3, x4, x5, x6] rfl _ fun i hi => ?_).mono fun e w' ⟨he, hw⟩ => ⟨he, by rw [hw]; exact Gr.refl _⟩
  rw [(Blk.new W T _).cell i]
  match i, hi with
  | 0, _ => rfl
  | 1, _ => rfl
  | 2, _ => rfl
  | 3, _ => rfl
  | 4, _ => rfl
  | 5, _ => rfl

set_option maxRecDepth 100000 in
set_option maxHeartbeats 8000000 in
theorem corder_gr (r1 f1 q1 s1 : ByteArray) (t1 k1 vk1 vn1 : Int) (r2 f2 q2 s2 : ByteArray) (t2 k2 vk2 vn2 : Int) (w : World) :
    Calls Tryd.prog 78 #[cellV r1 f1 q1 t1 k1 vk1 vn1 s1, cellV r2 f2 q2 t2 k2 vk2 vn2 s2] w fun e w' => e = .returned (.int .i64 (cOrd r1.data.toList f1.data.toList q1.data.toList t1 k1 r2.data.toList f2.data.toList q2.data.toList t2 k2)) ∧ Gr w w' := by
  unfold cOrd
  generalize hz : orI [Lib.compareBytes r1.data.toList r2.data.toList, Lib.compareBytes f1.data.toList f2.data.toList, Lib.compareInt (rankC k1) (rankC k2), Lib.compareBytes q1.data.toList q2.data.toList, Lib.compareInt t2 t1, Lib.compareInt k2 k1] = z
  have HZ := hid hz
  clear hz
  go_enter Tryd.func78, Tryd.ntmps78
  go_wp2
  obtain ⟨W, hW⟩ : ∃ W, ((w.alloc (.cells #[.string r1, .string f1, .string q1, .int .i64 t1, .int .i64 k1, .int .i64 vk1, .int .i64 vn1, .string s1] 28)).alloc (.cells #[.string r2, .string f2, .string q2, .int .i64 t2, .int .i64 k2, .int .i64 vk2, .int .i64 vn2, .string s2] 28)) = W := ⟨_, rfl⟩
  have HT : Hid (TwoG w r1 f1 q1 s1 t1 k1 vk1 vn1 r2 f2 q2 s2 t2 k2 vk2 vn2 W) := by
    subst hW
    have B1 : Blk (w.alloc (.cells #[Value.string r1, .string f1, .string q1, .int .i64 t1, .int .i64 k1, .int .i64 vk1, .int .i64 vn1, .string s1] 28)) w.heap.size 28 #[Value.string r1, .string f1, .string q1, .int .i64 t1, .int .i64 k1, .int .i64 vk1, .int .i64 vn1, .string s1] := Blk.new w _ _
    have B2 := B1.keep (below_new _ (.cells #[Value.string r2, .string f2, .string q2, .int .i64 t2, .int .i64 k2, .int .i64 vk2, .int .i64 vn2, .string s2] 28)) (by simp)
    have B3 : Blk ((w.alloc (.cells #[Value.string r1, .string f1, .string q1, .int .i64 t1, .int .i64 k1, .int .i64 vk1, .int .i64 vn1, .string s1] 28)).alloc (.cells #[Value.string r2, .string f2, .string q2, .int .i64 t2, .int .i64 k2, .int .i64 vk2, .int .i64 vn2, .string s2] 28)) (w.heap.size + 1) 28 #[Value.string r2, .string f2, .string q2, .int .i64 t2, .int .i64 k2, .int .i64 vk2, .int .i64 vn2, .string s2] := by
      have := Blk.new (w.alloc (.cells #[Value.string r1, .string f1, .string q1, .int .i64 t1, .int .i64 k1, .int .i64 vk1, .int .i64 vn1, .string s1] 28)) 28 #[Value.string r2, .string f2, .string q2, .int .i64 t2, .int .i64 k2, .int .i64 vk2, .int .i64 vn2, .string s2]
      simpa using this
    exact ⟨hid ⟨(Gr.new w _).alloc _, by simp⟩, B2.cell 0, B2.cell 1, B2.cell 2, B2.cell 3, B2.cell 4, B2.cell 5, B2.cell 6, B2.cell 7, B3.cell 0, B3.cell 1, B3.cell 2, B3.cell 3, B3.cell 4, B3.cell 5, B3.cell 6, B3.cell 7⟩
  rw [hW]
  clear hW
  obtain ⟨h0, c0, c1, c2, c3, c4, c5, c6, c7, d0, d1, d2, d3, d4, d5, d6, d7⟩ := HT.out
  go_region_held3 (fun w' => Hid (Gr w w' ∧ w.heap.size + 1 < w'.heap.size) ∧ w'.cell? ⟨w.heap.size, 0, none⟩ = some (.string r1) ∧ w'.cell? ⟨w.heap.size, 1, none⟩ = some (.string f1) ∧ w'.cell? ⟨w.heap.size, 2, none⟩ = some (.string q1) ∧ w'.cell? ⟨w.heap.size, 3, none⟩ = some (.int .i64 t1) ∧ w'.cell? ⟨w.heap.size, 4, none⟩ = some (.int .i64 k1) ∧ w'.cell? ⟨w.heap.size, 5, none⟩ = some (.int .i64 vk1) ∧ w'.cell? ⟨w.heap.size, 6, none⟩ = some (.int .i64 vn1) ∧ w'.cell? ⟨w.heap.size, 7, none⟩ = some (.string s1) ∧ w'.cell? ⟨w.heap.size + 1, 0, none⟩ = some (.string r2) ∧ w'.cell? ⟨w.heap.size + 1, 1, none⟩ = some (.string f2) ∧ w'.cell? ⟨w.heap.size + 1, 2, none⟩ = some (.string q2) ∧ w'.cell? ⟨w.heap.size + 1, 3, none⟩ = some (.int .i64 t2) ∧ w'.cell? ⟨w.heap.size + 1, 4, none⟩ = some (.int .i64 k2) ∧ w'.cell? ⟨w.heap.size + 1, 5, none⟩ = some (.int .i64 vk2) ∧ w'.cell? ⟨w.heap.size + 1, 6, none⟩ = some (.int .i64 vn2) ∧ w'.cell? ⟨w.heap.size + 1, 7, none⟩ = some (.string s2))
    (first | exact HT.out | exact twog_drew HT.out | exact twog_call (by assumption) hbo | exact twog_drew (by assumption) | assumption | exact twog_call (by assumption) (Gr.new _ _) | exact twog_call (twog_call (by assumption) (Gr.new _ _)) hbo)
    (first
      | (go_at_call 145; ((with_reducible refine (Tryd.strings_Compare _ _ _).mono ?_); rintro e w5 ⟨rfl, rfl⟩))
      | (go_at_call 146; ((with_reducible refine (Tryd.cmp_Compare_int _ _ _).mono ?_); rintro e w5 ⟨rfl, rfl⟩))
      | (go_at_call 147; ((with_reducible refine (crank_gr _ _ _ _ _ _ _ _ _).mono ?_); rintro e w5 ⟨rfl, hbo⟩))
      | (go_at_call 144; ((with_reducible refine (or6g _ _ _ _ _ _ _ _).mono ?_); rintro e w7 ⟨rfl, hbo⟩)))
  rename_i hLast
  go_wp2
  go_ret
  refine ⟨?_, hLast.1.out.1⟩
  rw [← HZ.out]
  rfl

/-- A comparison that is one: turned round it turns its sign, and it passes on. -/
structure C3 {α : Type} (f : α → α → Int) : Prop where
  anti : ∀ x y, f y x = -f x y
  tr : ∀ x y z, f x y ≤ 0 → f y z ≤ 0 → f x z ≤ 0
theorem C3.zero {α : Type} {f : α → α → Int} (h : C3 f) (x : α) : f x x = 0 := by have := h.anti x x; omega
theorem C3.lt_le {α : Type} {f : α → α → Int} (h : C3 f) {x y z : α} (h1 : f x y < 0) (h2 : f y z ≤ 0) : f x z < 0 := by
  have h3 := h.tr x y z (by omega) h2
  by_cases e : f x z = 0
  · have a1 := h.anti x z
    have := h.tr y z x h2 (by omega)
    have a2 := h.anti x y
    omega
  · omega
theorem C3.le_lt {α : Type} {f : α → α → Int} (h : C3 f) {x y z : α} (h1 : f x y ≤ 0) (h2 : f y z < 0) : f x z < 0 := by
  have h3 := h.tr x y z h1 (by omega)
  by_cases e : f x z = 0
  · have a1 := h.anti x z
    have := h.tr z x y (by omega) h1
    have a2 := h.anti y z
    omega
  · omega
/-- The second comparison decides where the first doesn't. -/
theorem C3.lex {α : Type} {f g : α → α → Int} (hf : C3 f) (hg : C3 g) : C3 (fun x y => if f x y = 0 then g x y else f x y) where
  anti x y := by
    have := hf.anti x y
    by_cases e : f x y = 0
    · rw [if_pos e, if_pos (by omega)]; exact hg.anti x y
    · rw [if_neg e, if_neg (by omega)]; exact this
  tr x y z h1 h2 := by
    have a1 := hf.anti x y
    have a2 := hf.anti y z
    have a3 := hf.anti x z
    by_cases e1 : f x y = 0
    · rw [if_pos e1] at h1
      by_cases e2 : f y z = 0
      · rw [if_pos e2] at h2
        have := hf.tr x y z (by omega) (by omega)
        have := hf.tr z y x (by omega) (by omega)
        rw [if_pos (by omega)]
        exact hg.tr x y z h1 h2
      · rw [if_neg e2] at h2
        have := hf.le_lt (x := x) (y := y) (z := z) (by omega) (by omega)
        rw [if_neg (by omega)]; omega
    · rw [if_neg e1] at h1
      have h2' : f y z ≤ 0 := by
        by_cases e2 : f y z = 0
        · omega
        · rw [if_neg e2] at h2; exact h2
      have := hf.lt_le (x := x) (y := y) (z := z) (by omega) h2'
      rw [if_neg (by omega)]; omega
theorem C3.bytes {α : Type} (p : α → List UInt8) : C3 (fun x y => Lib.compareBytes (p x) (p y)) where
  anti _ _ := cmpB_neg _ _
  tr _ _ _ := cmpB_trans _ _ _
theorem C3.int {α : Type} (p : α → Int) : C3 (fun x y => Lib.compareInt (p x) (p y)) where
  anti x y := by unfold Lib.compareInt; split <;> (try split) <;> (try split) <;> (try split) <;> omega
  tr x y z h1 h2 := by
    unfold Lib.compareInt at *
    split at h1 <;> split at h2 <;> (try split at h1) <;> (try split at h2) <;> split <;> (try split) <;> omega
theorem C3.zeroF {α : Type} : C3 (fun _ _ : α => 0) where
  anti _ _ := by omega
  tr _ _ _ _ _ := by omega
/-- How cells stand to each other. -/
def CT.cmp (x y : CT) : Int := cOrd x.r.data.toList x.f.data.toList x.q.data.toList x.t x.k y.r.data.toList y.f.data.toList y.q.data.toList y.t y.k
theorem ct_c3 : C3 CT.cmp := by
  have h := (C3.bytes fun x : CT => x.r.data.toList).lex ((C3.bytes fun x : CT => x.f.data.toList).lex ((C3.int fun x : CT => rankC x.k).lex ((C3.bytes fun x : CT => x.q.data.toList).lex ((C3.int fun x : CT => -x.t).lex ((C3.int fun x : CT => -x.k).lex C3.zeroF)))))
  have e : CT.cmp = fun x y => (if Lib.compareBytes x.r.data.toList y.r.data.toList = 0 then (if Lib.compareBytes x.f.data.toList y.f.data.toList = 0 then (if Lib.compareInt (rankC x.k) (rankC y.k) = 0 then (if Lib.compareBytes x.q.data.toList y.q.data.toList = 0 then (if Lib.compareInt (-x.t) (-y.t) = 0 then (if Lib.compareInt (-x.k) (-y.k) = 0 then 0 else Lib.compareInt (-x.k) (-y.k)) else Lib.compareInt (-x.t) (-y.t)) else Lib.compareBytes x.q.data.toList y.q.data.toList) else Lib.compareInt (rankC x.k) (rankC y.k)) else Lib.compareBytes x.f.data.toList y.f.data.toList) else Lib.compareBytes x.r.data.toList y.r.data.toList) := by
    funext x y
    have n1 : ∀ a b : Int, Lib.compareInt b a = Lib.compareInt (-a) (-b) := fun a b => by unfold Lib.compareInt; split <;> (try split) <;> (try split) <;> (try split) <;> omega
    unfold CT.cmp cOrd
    simp only [orI_cons, n1 x.t y.t, n1 x.k y.k]
    rfl
  rw [e]
  exact h
theorem c3_swo {α : Type} {f : α → α → Int} (h : C3 f) : Go.Sort.SWO (ltOf f) where
  irrefl x := by unfold ltOf; rw [h.zero]; rfl
  trans x y z h1 h2 := by
    unfold ltOf at *
    have h1 := of_decide_eq_true h1
    have h2 := of_decide_eq_true h2
    exact decide_eq_true (h.lt_le h1 (by omega))
  ntrans x y z h1 h2 := by
    unfold ltOf at *
    have h1 := of_decide_eq_false h1
    have h2 := of_decide_eq_false h2
    refine decide_eq_false ?_
    have a1 := h.anti x y
    have a2 := h.anti y z
    have a3 := h.anti x z
    have := h.tr z y x (by omega) (by omega)
    omega
end Go.Proofs.YtgfkobfkncpmoaaDoor

/- Right cells; cells that are no greater than any are. -/
namespace Go.Proofs.YtgfkobfkncpmoaaDoor
open Go.RowKit

/-- A cell as a program may hold it. -/
def okC (c : CT) : Prop := c.f.size ≤ 9223372036854775807 ∧ c.s.size ≤ 9223372036854775807 ∧ inI c.vn
/-- Is a cell right? -/
def CT.ok (c : CT) : Bool := cRight c.r.data.toList c.f.data.toList c.q.data.toList c.t c.k c.vk c.vn c.s.data.toList
end Go.Proofs.YtgfkobfkncpmoaaDoor

/- What many texts over cells lean on: when a list is greater than is looked at; texts that differ; a world that is forgotten but for named facts. Conditions: none. -/
namespace Go.Proofs.YtgfkobfkncpmoaaDoor
open Go.RowKit

/-- Is a cell greater than is looked at? -/
def longC1 (c : CT) : Bool := decide (60 < c.r.size) || (decide (60 < c.f.size) || (decide (60 < c.q.size) || decide (100 < c.s.size)))
def longC (l : List CT) : Bool := decide (60 < l.length) || l.any longC1

theorem ba_ne {x y : ByteArray} (h : x ≠ y) : (x.toList == y.toList) = false := by
  rw [Bool.eq_false_iff]
  intro e
  have e := eq_of_beq e
  apply h
  apply ByteArray.ext
  rw [ByteArray.toList_eq, ByteArray.toList_eq] at e
  exact Array.toList_inj.1 e

end Go.Proofs.YtgfkobfkncpmoaaDoor
