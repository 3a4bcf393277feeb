/- Cells as values, slices of cells in memory: rows of the call's own, appending to them. Conditions: as each theorem names them. -/
import Derived.Test.YtfcnobcpnhfgmaaDoorCB
import Derived.Test.YtfcnobcpnhfgmaaDoorSLa
import Derived.Test.YtfcnobcpnhfgmaaDoorVC
import Derived.Shelf.SlSortCmp.KitK
namespace Go.Proofs.YtfcnobcpnhfgmaaDoor
open Go.RowKit

/-- A cell. -/
structure CT where
  r : ByteArray
  f : ByteArray
  q : ByteArray
  t : Int
  k : Int
  vk : Int
  vn : Int
  s : ByteArray
instance : Inhabited CT := ⟨⟨⟨#[]⟩, ⟨#[]⟩, ⟨#[]⟩, 0, 0, 0, 0, ⟨#[]⟩⟩⟩
/-- Its eight words. -/
def CT.e (c : CT) : List Value := [.string c.r, .string c.f, .string c.q, .int .i64 c.t, .int .i64 c.k, .int .i64 c.vk, .int .i64 c.vn, .string c.s]
abbrev CT.v (c : CT) : Value := cellV c.r c.f c.q c.t c.k c.vk c.vn c.s
theorem CT.e_len (c : CT) : c.e.length = 8 := rfl
theorem CT.e_one (c : CT) : ∀ u ∈ c.e, u.oneCell' = true := by
  intro u hu
  simp only [CT.e, List.mem_cons, List.not_mem_nil, or_false] at hu
  rcases hu with rfl | rfl | rfl | rfl | rfl | rfl | rfl | rfl <;> rfl

/-- The words of a list of cells. -/
def flatC : List CT → List Value
  | [] => []
  | c :: l => c.e ++ flatC l
theorem flatC_len : ∀ l : List CT, (flatC l).length = l.length * 8
  | [] => rfl
  | c :: l => by
    show (c.e ++ flatC l).length = (l.length + 1) * 8
    rw [List.length_append, CT.e_len, flatC_len l]; omega
theorem flatC_app : ∀ l m : List CT, flatC (l ++ m) = flatC l ++ flatC m
  | [], _ => rfl
  | c :: l, m => by
    show c.e ++ flatC (l ++ m) = (c.e ++ flatC l) ++ flatC m
    rw [flatC_app l m, List.append_assoc]
theorem flatC_one (c : CT) : flatC [c] = c.e := by show c.e ++ [] = c.e; rw [List.append_nil]
theorem flatC_at : ∀ (l : List CT) (i j : Nat) (h : i < l.length), j < 8 → (flatC l)[i * 8 + j]? = l[i].e[j]?
  | c :: l, 0, j, _, hj => by
    show (c.e ++ flatC l)[0 * 8 + j]? = c.e[j]?
    rw [Nat.zero_mul, Nat.zero_add, List.getElem?_append_left (by rw [CT.e_len]; exact hj)]
  | c :: l, i + 1, j, h, hj => by
    show (c.e ++ flatC l)[(i + 1) * 8 + j]? = _
    rw [List.getElem?_append_right (by rw [CT.e_len]; omega), CT.e_len, show (i + 1) * 8 + j - 8 = i * 8 + j by omega]
    exact flatC_at l i j (by simpa using h) hj

/-- The words of l stand from a place on. -/
def HC (w : World) (b off : Nat) (l : List CT) : Prop := ∀ i (h : i < l.length), ∀ j, j < 8 → w.cell? ⟨b, off + i * 8 + j, none⟩ = l[i].e[j]?
theorem HC.lt {w : World} {b off : Nat} {l : List CT} (h : HC w b off l) (h0 : 0 < l.length) : b < w.heap.size := by
  have := h 0 h0 0 (by omega)
  exact cell_lt (v := .string l[0].r) this
theorem HC.below {w w' : World} {B b off : Nat} {l : List CT} (h : HC w b off l) (hb : Below B w w') (hB : b < B) : HC w' b off l := fun i hi j hj => by
  rw [hb.cell (p := ⟨b, off + i * 8 + j, none⟩) hB]; exact h i hi j hj
theorem HC.words {w : World} {b off : Nat} {l : List CT} (h : HC w b off l) (i : Nat) (hi : i < l.length) :
    w.cell? ⟨b, off + i * 8, none⟩ = some (.string l[i].r) ∧ w.cell? ⟨b, off + i * 8 + 1, none⟩ = some (.string l[i].f) ∧ w.cell? ⟨b, off + i * 8 + 2, none⟩ = some (.string l[i].q) ∧ w.cell? ⟨b, off + i * 8 + 3, none⟩ = some (.int .i64 l[i].t) ∧ w.cell? ⟨b, off + i * 8 + 4, none⟩ = some (.int .i64 l[i].k) ∧ w.cell? ⟨b, off + i * 8 + 5, none⟩ = some (.int .i64 l[i].vk) ∧ w.cell? ⟨b, off + i * 8 + 6, none⟩ = some (.int .i64 l[i].vn) ∧ w.cell? ⟨b, off + i * 8 + 7, none⟩ = some (.string l[i].s) :=
  ⟨h i hi 0 (by omega), h i hi 1 (by omega), h i hi 2 (by omega), h i hi 3 (by omega), h i hi 4 (by omega), h i hi 5 (by omega), h i hi 6 (by omega), h i hi 7 (by omega)⟩
theorem HC.drop {w : World} {b off : Nat} {l : List CT} (h : HC w b off l) (k : Nat) : HC w b (off + k * 8) (l.drop k) := fun i hi j hj => by
  rw [List.length_drop] at hi
  have := h (k + i) (by omega) j hj
  rw [show off + k * 8 + i * 8 + j = off + (k + i) * 8 + j by omega, this, List.getElem_drop]

/-- The value is a slice that holds the cells l. -/
def ClA (w : World) (v : Value) (l : List CT) : Prop := ∃ A c, v = .slice A l.length c ∧ l.length ≤ c ∧ c ≤ 9223372036854775807 ∧ (0 < l.length → ∃ b off, A = some ⟨b, off, none⟩ ∧ HC w b off l)
theorem ClA.below {w w' : World} {v : Value} {l : List CT} (h : ClA w v l) (hb : Below w.heap.size w w') : ClA w' v l := by
  obtain ⟨A, c, h1, h2, h3, h4⟩ := h
  refine ⟨A, c, h1, h2, h3, fun h0 => ?_⟩
  obtain ⟨b, off, e, hh⟩ := h4 h0
  exact ⟨b, off, e, hh.below hb (hh.lt h0)⟩
theorem cla_nil (w : World) : ClA w (.slice none 0 0) [] := ⟨none, 0, rfl, by simp, by omega, fun h => absurd h (by simp)⟩

/-- A row of the call's own that holds the cells l. -/
def CRow (w : World) (B : Nat) (v : Value) (l : List CT) : Prop := w.ownsRow B 40 8 v l.length (flatC l)
theorem CRow.none (w : World) (B : Nat) : CRow w B (.slice none 0 0) [] := ⟨rfl, .inl ⟨rfl, rfl⟩⟩
theorem CRow.hc {w : World} {B g n c : Nat} {l : List CT} (h : CRow w B (.slice (some ⟨g, 0, Option.none⟩) n c) l) : HC w g 0 l := fun i hi j hj => by
  have hc := World.ownsRow.cells h (g := g) rfl (i * 8 + j)
  rw [flatC_at l i j hi hj] at hc
  have hj2 : j < l[i].e.length := by rw [CT.e_len]; exact hj
  have := hc l[i].e[j] (List.getElem?_eq_getElem hj2)
  rw [add_zero_off, Nat.zero_add] at this
  rw [List.getElem?_eq_getElem hj2, Nat.zero_add]
  exact this
theorem CRow.len {w : World} {B : Nat} {v : Value} {l : List CT} (h : CRow w B v l) : ∃ A c, v = .slice A l.length c ∧ l.length ≤ c ∧ c ≤ 9223372036854775807 := by
  rcases h.2 with ⟨e, hz⟩ | ⟨g, cap, cur, e, _, _, h1, h2, _⟩
  · exact ⟨Option.none, 0, by rw [e, hz], by omega, by omega⟩
  · exact ⟨_, cap, e, h1, by unfold maxLen at h2; omega⟩
theorem CRow.cla {w : World} {B : Nat} {v : Value} {l : List CT} (h : CRow w B v l) : ClA w v l := by
  have h' := h
  rcases h.2 with ⟨e, hz⟩ | ⟨g, cap, cur, e, _, _, h1, h2, _⟩
  · have e0 : l = [] := List.eq_nil_of_length_eq_zero hz
    subst e0 e
    exact cla_nil w
  · subst e
    exact ⟨_, cap, rfl, h1, by unfold maxLen at h2; omega, fun _ => ⟨g, 0, rfl, h'.hc⟩⟩
theorem CRow.le {w : World} {B B' : Nat} {v : Value} {l : List CT} (h : CRow w B v l) (hB : B' ≤ B) : CRow w B' v l := by
  refine ⟨h.1, ?_⟩
  rcases h.2 with h | ⟨g, cap, cur, e, hb, hr⟩
  · exact .inl h
  · exact .inr ⟨g, cap, cur, e, Nat.le_trans hB hb, hr⟩
theorem CRow.below {w w' : World} {B : Nat} {v : Value} {l : List CT} (h : CRow w B v l) (hb : Below w.heap.size w w') : CRow w' B v l := by
  refine ⟨h.1, ?_⟩
  rcases h.2 with h | ⟨g, cap, cur, e, h1, h2, hr⟩
  · exact .inl h
  · have hg : g < w.heap.size := by
      rcases Nat.lt_or_ge g w.heap.size with h' | h'
      · exact h'
      · rw [Array.getElem?_eq_none h'] at h2; cases h2
    exact .inr ⟨g, cap, cur, e, h1, by rw [hb.block g hg]; exact h2, hr⟩

theorem info_cell : (Tryd.prog.info? 40).map (fun i => (i.zero, i.size, i.bytes)) = some (some (.agg #[.string ⟨#[]⟩, .string ⟨#[]⟩, .string ⟨#[]⟩, .int .i64 0, .int .i64 0, .int .i64 0, .int .i64 0, .string ⟨#[]⟩]), 8, 96) := by kernel_rfl

section
variable {ops : Array Oper} {rest : List Oper} {o : Oper} {a : Act} {Q : Exit → Act → World → Prop}
/-- append of one cell to a row of the call's own. -/
theorem wpList_append_cell (hgd : o.guard = Option.none) (s x : Operand)
    (ho : o.op = .call { callee := .builtin .append, args := #[s, x], argTypes := #[22, 22] })
    (w : World) (base : Nat) (v : Value) (l : List CT) (hs : a.eval s = v) (hown : CRow w base v l)
    (G : Nat) (m : Nat) (hx : a.eval x = .slice (some ⟨G, 0, Option.none⟩) 1 m) (y : CT) (hc : ∀ j u, y.e[j]? = some u → w.cell? ((⟨G, 0, Option.none⟩ : Addr).add j) = some u)
    (hlen : l.length ≤ 100000) (hbase : base ≤ w.heap.size)
    (h : ∀ v' w', CRow w' base v' (l ++ [y]) → Below base w w' → w.grownBy w' v.ownBlock → wpList Tryd.prog ops Q rest (a.put o.dst v') w') : wpList Tryd.prog ops Q (o :: rest) a w := by
  obtain ⟨i0, hi, hz0, hz1, hz2⟩ := info_parts info_cell
  refine wpList_append_own w hgd s x 22 ho base 40 i0 _ 8 96 Tryd.underlying22 hi hz0 hz1 hz2 rfl (by decide) v l.length (flatC l) hs hown ⟨G, 0, Option.none⟩ 1 m y.e hx (CT.e_len y) hc y.e_one (by unfold maxLen; omega) (by omega) hbase ?_
  intro v' w' h1 h2 _
  refine h v' w' ?_ ((Below.refl _ _).grown h2 hbase fun k hk => (World.ownsRow.lt hown k hk).1) h2
  unfold CRow
  rw [flatC_app, flatC_one, List.length_append]
  exact h1
end
/-- A cell in a new block. -/
theorem ct_new (c : CT) (W : World) (T : TypeId) : ∀ j u, c.e[j]? = some u → (W.alloc (.cells #[.string c.r, .string c.f, .string c.q, .int .i64 c.t, .int .i64 c.k, .int .i64 c.vk, .int .i64 c.vn, .string c.s] T)).cell? ((⟨W.heap.size, 0, none⟩ : Addr).add j) = some u := fun j u hu => by
  rw [add_zero_off, Nat.zero_add, (Blk.new W T _).cell j, ← hu]
  show c.e.toArray[j]? = _
  rw [List.getElem?_toArray]
end Go.Proofs.YtfcnobcpnhfgmaaDoor
