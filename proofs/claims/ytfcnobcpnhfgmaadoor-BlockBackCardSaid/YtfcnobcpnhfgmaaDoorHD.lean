/- An append in a row's own room; cell.lasts: of cells that stand in order the last one of each place, in their own memory. Conditions: a hundred thousand cells at most. -/
import Derived.Test.YtfcnobcpnhfgmaaDoorHC
import Derived.Deep.RegionHeld3
namespace Go.Proofs.YtfcnobcpnhfgmaaDoor
open Go.RowKit

section
variable {ops : Array Oper} {rest : List Oper} {o : Oper} {a : Act} {Q : Exit → Act → World → Prop}
set_option maxRecDepth 100000 in
/-- append of one cell where there is room: the block's words are told whole. -/
theorem wpList_append_room (hgd : o.guard = none) (s x : Operand)
    (ho : o.op = .call { callee := .builtin .append, args := #[s, x], argTypes := #[22, 22] })
    (w : World) (g n cap : Nat) (hs : a.eval s = .slice (some ⟨g, 0, none⟩) n cap) (cur : Array Value) (hg : w.heap[g]? = some (.cells cur 40 (0, 0))) (hcs : cur.size = cap * 8)
    (G m : Nat) (hx : a.eval x = .slice (some ⟨G, 0, none⟩) 1 m) (y : CT) (hc : ∀ j u, y.e[j]? = some u → w.cell? ((⟨G, 0, none⟩ : Addr).add j) = some u) (hroom : n + 1 ≤ cap)
    (h : ∀ w' cur', w'.heap[g]? = some (.cells cur' 40 (0, 0)) → cur'.size = cap * 8 → (∀ t, cur'[t]? = if t < n * 8 then cur[t]? else if t < n * 8 + 8 then y.e[t - n * 8]? else cur[t]?) → (∀ B, B ≤ g → B ≤ w.heap.size → Below B w w') → wpList Tryd.prog ops Q rest (a.put o.dst (.slice (some ⟨g, 0, none⟩) (n + 1) cap)) w') : wpList Tryd.prog ops Q (o :: rest) a w := by
  obtain ⟨i0, hi, hz0, hz1, hz2⟩ := info_parts info_cell
  refine wpList_plain hgd fun K hK => ?_
  have hr := run_append_room (P := Tryd.prog) w 22 o.type 40 i0 Tryd.underlying22 hi g n cap cur hg ⟨G, 0, none⟩ 1 m y.e (by rw [hz1]; rfl) hc y.e_one hroom (by rw [hz1, CT.e_len, hcs]; omega)
  rw [hz1, CT.e_len] at hr
  unfold Oper.wp execOp
  simp only [ho, resolve, invoke, builtin, Sem.run_bind, Sem.run_pure, Result.andThen_ok, List.map_toArray, List.map_cons, List.map_nil, hs, hx, hr]
  have hl : (cur.toList.take (n * 8)).length = n * 8 := by rw [List.length_take, Array.length_toList, hcs]; omega
  refine hK _ _ (h _ _ (setRow_heap w g cur _ _ _ hg) ?_ (fun t => ?_) fun B h1 h2 => ⟨rfl, rfl, rfl, by simp, fun k hk => setRow_other w g k _ (by omega)⟩)
  · simp only [List.size_toArray, List.length_append, List.length_take, List.length_drop, Array.length_toList, CT.e_len, hcs]
    omega
  · rw [List.getElem?_toArray]
    by_cases c1 : t < n * 8
    · rw [if_pos c1, List.append_assoc, List.getElem?_append_left (by rw [hl]; exact c1), List.getElem?_take_of_lt c1, Array.getElem?_toList]
    · rw [if_neg c1]
      by_cases c2 : t < n * 8 + 8
      · rw [if_pos c2, List.getElem?_append_left (by rw [List.length_append, hl, CT.e_len]; exact c2), List.getElem?_append_right (by rw [hl]; omega), hl]
      · rw [if_neg c2, List.getElem?_append_right (by rw [List.length_append, hl, CT.e_len]; omega), List.length_append, hl, CT.e_len, List.getElem?_drop, Array.getElem?_toList]
        congr 1; omega
end

theorem wp_ltc {P : Program} {c : Code} {Q : Exit → Act → World → Prop} {a : Act} {w : World} (F : World → Prop) (h0 : F w) (h : ∀ W, F W → c.wp P Q a W) : c.wp P Q a w := h w h0

/-- Of cells that stand in order, the last one of each place. -/
def lastsM : List CT → List CT
  | [] => []
  | [x] => [x]
  | x :: y :: t => if CT.cmp x y = 0 then lastsM (y :: t) else x :: lastsM (y :: t)

/-- Where cell.lasts is: what it has kept stands at the row's beginning, what it hasn't looked at stands where it stood. -/
structure LsS (wr : World) (g cap : Nat) (s out : List CT) (i : Nat) : Prop where
  ex : ∃ cur, wr.heap[g]? = some (.cells cur 40 (0, 0)) ∧ cur.size = cap * 8 ∧ (∀ t, t < out.length * 8 → cur[t]? = (flatC out)[t]?) ∧ (∀ t, i * 8 ≤ t → t < s.length * 8 → cur[t]? = (flatC s)[t]?)
  ko : out.length ≤ i
  sc : s.length ≤ cap
  cm : cap ≤ maxLen
theorem LsS.cell {wr : World} {g cap : Nat} {s out : List CT} {i : Nat} (h : LsS wr g cap s out i) (j k : Nat) (hj : i ≤ j) (hs : j < s.length) (hk : k < 8) : wr.cell? ⟨g, j * 8 + k, none⟩ = s[j].e[k]? := by
  obtain ⟨cur, h1, h2, _, h4⟩ := h.ex
  have := h4 (j * 8 + k) (by omega) (by omega)
  rw [flatC_at s j k hs hk] at this
  simp [World.cell?, h1, this]
theorem LsS.keep {wr w' : World} {g cap : Nat} {s out : List CT} {i : Nat} (h : LsS wr g cap s out i) (hb : Below wr.heap.size wr w') : LsS w' g cap s out i := by
  obtain ⟨⟨cur, h1, h2, h3, h4⟩, a, b, c⟩ := h
  have hg : g < wr.heap.size := (Array.getElem?_eq_some_iff.1 h1).1
  exact ⟨⟨cur, by rw [hb.block g hg]; exact h1, h2, h3, h4⟩, a, b, c⟩
theorem LsS.skip {wr : World} {g cap : Nat} {s out : List CT} {i : Nat} (h : LsS wr g cap s out i) : LsS wr g cap s out (i + 1) := by
  obtain ⟨⟨cur, h1, h2, h3, h4⟩, a, b, c⟩ := h
  exact ⟨⟨cur, h1, h2, h3, fun t q1 q2 => h4 t (by omega) q2⟩, by omega, b, c⟩
theorem LsS.row {wr : World} {B g cap : Nat} {s out : List CT} {i : Nat} (h : LsS wr g cap s out i) (hi : i ≤ s.length) (hB : B ≤ g) : CRow wr B (.slice (some ⟨g, 0, none⟩) out.length cap) out := by
  obtain ⟨⟨cur, h1, h2, h3, h4⟩, a, b, c⟩ := h
  refine ⟨flatC_len out, .inr ⟨g, cap, cur, rfl, hB, h1, by omega, c, h2, ?_⟩⟩
  apply List.ext_getElem?
  intro t
  by_cases ht : t < out.length * 8
  · rw [List.getElem?_take_of_lt ht, Array.getElem?_toList, h3 t ht]
  · rw [List.getElem?_take_eq_none (by omega), List.getElem?_eq_none (by rw [flatC_len]; omega)]
theorem LsS.start {w : World} {B g cap : Nat} {s : List CT} (h : CRow w B (.slice (some ⟨g, 0, none⟩) s.length cap) s) : LsS w g cap s [] 0 := by
  obtain ⟨_, h2⟩ := h
  rcases h2 with ⟨e, _⟩ | ⟨g', cap', cur, e, _, hh, h1, hm, hc, ht⟩
  · cases e
  · cases e
    refine ⟨⟨cur, hh, hc, fun t q => absurd q (by simp), fun t _ q => ?_⟩, by simp, h1, hm⟩
    rw [← ht, List.getElem?_take_of_lt q, Array.getElem?_toList]
theorem LsS.put {wr w' : World} {g cap : Nat} {s out : List CT} {i : Nat} (h : LsS wr g cap s out i) (hi : i < s.length) (cur cur' : Array Value) (hg : wr.heap[g]? = some (.cells cur 40 (0, 0)))
    (h1 : w'.heap[g]? = some (.cells cur' 40 (0, 0))) (h2 : cur'.size = cap * 8) (h3 : ∀ t, cur'[t]? = if t < out.length * 8 then cur[t]? else if t < out.length * 8 + 8 then s[i].e[t - out.length * 8]? else cur[t]?) : LsS w' g cap s (out ++ [s[i]]) (i + 1) := by
  obtain ⟨⟨cur0, q1, q2, q3, q4⟩, a, b, c⟩ := h
  rw [hg] at q1
  injection q1 with q1
  injection q1 with q1
  subst q1
  refine ⟨⟨cur', h1, h2, fun t ht => ?_, fun t t1 t2 => ?_⟩, by simp; omega, b, c⟩
  · rw [List.length_append, List.length_singleton] at ht
    rw [h3 t, flatC_app, flatC_one]
    by_cases c1 : t < out.length * 8
    · rw [if_pos c1, q3 t c1, List.getElem?_append_left (by rw [flatC_len]; exact c1)]
    · rw [if_neg c1, if_pos (by omega), List.getElem?_append_right (by rw [flatC_len]; omega), flatC_len]
  · rw [h3 t, if_neg (by omega), if_neg (by omega)]
    exact q4 t (by omega) t2

/-- A cell in a block of the call's own, and what Order tells of it and another one. -/
abbrev OneG (W0 : World) (c : CT) (bb : Nat) (W : World) : Prop := Hid (Below W0.heap.size W0 W ∧ bb < W0.heap.size) ∧ W.cell? ⟨bb, 0, none⟩ = some (.string c.r) ∧ W.cell? ⟨bb, 1, none⟩ = some (.string c.f) ∧ W.cell? ⟨bb, 2, none⟩ = some (.string c.q) ∧ W.cell? ⟨bb, 3, none⟩ = some (.int .i64 c.t) ∧ W.cell? ⟨bb, 4, none⟩ = some (.int .i64 c.k) ∧ W.cell? ⟨bb, 5, none⟩ = some (.int .i64 c.vk) ∧ W.cell? ⟨bb, 6, none⟩ = some (.int .i64 c.vn) ∧ W.cell? ⟨bb, 7, none⟩ = some (.string c.s)
theorem blk_words {W : World} {bb : Nat} {c : CT} (h : Blk W bb 40 c.e.toArray) : W.cell? ⟨bb, 0, none⟩ = some (.string c.r) ∧ W.cell? ⟨bb, 1, none⟩ = some (.string c.f) ∧ W.cell? ⟨bb, 2, none⟩ = some (.string c.q) ∧ W.cell? ⟨bb, 3, none⟩ = some (.int .i64 c.t) ∧ W.cell? ⟨bb, 4, none⟩ = some (.int .i64 c.k) ∧ W.cell? ⟨bb, 5, none⟩ = some (.int .i64 c.vk) ∧ W.cell? ⟨bb, 6, none⟩ = some (.int .i64 c.vn) ∧ W.cell? ⟨bb, 7, none⟩ = some (.string c.s) :=
  ⟨h.cell 0, h.cell 1, h.cell 2, h.cell 3, h.cell 4, h.cell 5, h.cell 6, h.cell 7⟩
end Go.Proofs.YtfcnobcpnhfgmaaDoor
