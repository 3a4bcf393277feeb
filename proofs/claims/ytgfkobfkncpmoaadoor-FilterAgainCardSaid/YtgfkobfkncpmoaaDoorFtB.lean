/- Texts in a slice: copied, looked for, compared. Conditions: the slice holds them. -/
import Derived.Test.YtgfkobfkncpmoaaDoorP1
namespace Go.Proofs.YtgfkobfkncpmoaaDoor
open Go.RowKit

theorem info_txt9 : (Tryd.prog.info? 9).map (fun i => (i.zero, i.size, i.bytes)) = some (some (.string ⟨#[]⟩), 1, 16) := by kernel_rfl
/-- The slice holds the texts. -/
def TxA (w : World) (v : Value) (l : List ByteArray) : Prop := ∃ A c, v = .slice A l.length c ∧ l.length ≤ c ∧ c ≤ 9223372036854775807 ∧ (0 < l.length → ∃ b off, A = some ⟨b, off, none⟩ ∧ ∀ (i : Nat) (x : ByteArray), l[i]? = some x → w.cell? ⟨b, off + i, none⟩ = some (.string x))
theorem TxA.below {w w' : World} {v : Value} {l : List ByteArray} (h : TxA w v l) (hb : Below w.heap.size w w') : TxA w' v l := by
  obtain ⟨A, c, e, h1, h2, hh⟩ := h
  refine ⟨A, c, e, h1, h2, fun h0 => ?_⟩
  obtain ⟨b, off, e2, h⟩ := hh h0
  exact ⟨b, off, e2, fun i x hx => (hb.cell (p := ⟨b, off + i, none⟩) (cell_lt (h i x hx))).trans (h i x hx)⟩
/-- A slice of texts of the call's own. -/
def TRow (w : World) (B : Nat) (v : Value) (l : List ByteArray) : Prop := w.ownsRow B 9 1 v l.length (l.map Value.string)
theorem TRow.txa {w : World} {B : Nat} {v : Value} {l : List ByteArray} (h : TRow w B v l) : TxA w v l := by
  rcases h.2 with ⟨e, h0⟩ | ⟨g, cap, cur, e, _, hb, h1, h2, h3, h4⟩
  · exact ⟨none, 0, by rw [e, h0], by omega, by omega, fun h => by omega⟩
  · refine ⟨_, cap, e, h1, by unfold maxLen at h2; omega, fun _ => ⟨g, 0, rfl, fun i x hx => ?_⟩⟩
    have hi : i < l.length := (List.getElem?_eq_some_iff.1 hx).1
    have hb2 : Blk w g 9 cur := hb
    rw [Nat.zero_add, hb2.cell]
    have : (l.map Value.string)[i]? = some (.string x) := by rw [List.getElem?_map, hx]; rfl
    rw [← h4, List.getElem?_take_of_lt (by omega), Array.getElem?_toList] at this
    exact this
theorem empty_trow (W : World) (B : Nat) (hB : B ≤ W.heap.size) : TRow (W.alloc (.cells #[] 9)) B (.slice (some ⟨W.heap.size, 0, none⟩) 0 0) [] := ⟨rfl, .inr ⟨W.heap.size, 0, #[], rfl, hB, Blk.new _ _ _, Nat.le_refl _, by unfold maxLen; omega, rfl, rfl⟩⟩

section
variable {ops : Array Oper} {rest : List Oper} {o : Oper} {a : Act} {Q : Exit → Act → World → Prop}
/-- append of texts to a list of the call's own. -/
theorem wpList_append_txt9 (hgd : o.guard = Option.none) (s x : Operand)
    (ho : o.op = .call { callee := .builtin .append, args := #[s, x], argTypes := #[80, 80] })
    (w : World) (base : Nat) (v : Value) (xs : List ByteArray) (hs : a.eval s = v) (hown : TRow w base v xs)
    (p : Addr) (c : Nat) (ys : List ByteArray) (hx : a.eval x = .slice (some p) ys.length c) (hc : ∀ i y, ys[i]? = some y → w.cell? (p.add i) = some (.string y))
    (hlen : xs.length + ys.length ≤ 1000000) (hbase : base ≤ w.heap.size)
    (h : ∀ v' w', TRow w' base v' (xs ++ ys) → Below base w w' → wpList Tryd.prog ops Q rest (a.put o.dst v') w') : wpList Tryd.prog ops Q (o :: rest) a w := by
  obtain ⟨i0, hi, hz0, hz1, hz2⟩ := info_parts info_txt9
  refine wpList_append_own w hgd s x 80 ho base 9 i0 (.string ⟨#[]⟩) 1 16 Tryd.underlying80 hi hz0 hz1 hz2 rfl (by decide) v xs.length (xs.map Value.string) hs hown p ys.length c (ys.map Value.string) hx (by rw [List.length_map, Nat.mul_one]) ?_ ?_ (by unfold maxLen; omega) (by omega) hbase ?_
  · intro j e he
    rw [List.getElem?_map] at he
    cases hj : ys[j]? with
    | none => rw [hj] at he; cases he
    | some y => rw [hj] at he; cases he; exact hc j y hj
  · intro e he
    obtain ⟨y, _, rfl⟩ := List.mem_map.1 he
    rfl
  · intro v' w' h1 h2 _
    refine h v' w' ?_ ((Below.refl _ _).grown h2 hbase fun k hk => (World.ownsRow.lt hown k hk).1)
    show w'.ownsRow base _ 1 v' (xs ++ ys).length _
    rw [List.map_append, List.length_append]
    exact h1
end

set_option maxRecDepth 100000 in
/-- slices.Clone at texts. -/
theorem clonet_any (v : Value) (l : List ByteArray) (hl : l.length ≤ 1000000) (w : World) (h : TxA w v l) :
    Calls Tryd.prog 133 #[v] w fun e w' => ∃ v', e = .returned v' ∧ TxA w' v' l ∧ Below w.heap.size w w' := by
  have q22 : ∀ (w : World) (a : Option Addr) (n c n' c' : Nat), (binOp .eql 80 (.slice a n c) (.slice none n' c')).run Tryd.prog w = .ok (.bool a.isNone) w := fun w a n c n' c' => Lib.run_eql_slice_nil w _ _ a n c n' c' Tryd.underlying80
  obtain ⟨A, c, rfl, h1, h2, hh⟩ := h
  have HH := hid hh
  have HR := hid (empty_trow w w.heap.size (Nat.le_refl _))
  have HL := hid hl
  obtain ⟨n, hn⟩ : ∃ n, l.length = n := ⟨_, rfl⟩
  have HN := hid hn
  rw [hn] at h1 ⊢
  clear hl hh hn
  cases A with
  | none =>
    have h0 : l = [] := by
      by_cases h0 : 0 < l.length
      · obtain ⟨b, off, e, _⟩ := HH.out h0
        cases e
      · exact List.eq_nil_of_length_eq_zero (by omega)
    go_enter Tryd.func133, Tryd.ntmps133
    go_wp2
    go_ret
    refine ⟨_, rfl, ?_, Below.refl _ _⟩
    rw [h0]
    exact ⟨none, 0, rfl, Nat.le_refl _, by omega, fun h => absurd h (by simp)⟩
  | some p =>
    have HB : Hid (∀ (i : Nat) (y : ByteArray), l[i]? = some y → (w.alloc (.cells #[] 9)).cell? (p.add i) = some (.string y)) := fun i y hy => by
      have hi : i < l.length := (List.getElem?_eq_some_iff.1 hy).1
      obtain ⟨b, off, e, hc⟩ := HH.out (by omega)
      injection e with e
      have h9 := hc i y hy
      rw [e, add_zero_off]
      exact ((below_new w _).cell (p := ⟨b, off + i, none⟩) (cell_lt h9)).trans h9
    clear HH
    go_enter Tryd.func133, Tryd.ntmps133
    go_wp2_with (first
      | (at_builtin; go_loud (refine wpList_append_txt9 rfl (.tmp 5) (.tmp 6) rfl _ w.heap.size _ [] rfl HR.out p c l (by rw [HN.out]; rfl) (fun i y hy => HB.out i y hy) (by have := HL.out; simp only [List.length_nil]; omega) (below_new w _).size ?_; intro v' w' hR' hb')))
    go_ret
    exact ⟨_, rfl, hR'.txa, (below_new w _).trans hb'⟩

theorem txt_ne {x y : ByteArray} (h : ¬ x = y) : (x.toList == y.toList) = false := by
  rw [Lib.toList_data, Lib.toList_data]
  refine beq_eq_false_iff_ne.2 fun e => h ?_
  cases x; cases y
  simp only [ByteArray.mk.injEq]
  exact Array.toList_inj.1 e
/-- Is a text among them? -/
def hasT (l : List ByteArray) (x : ByteArray) : Bool := l.any fun y => decide (y = x)
theorem hasT_iff {l : List ByteArray} {x : ByteArray} : hasT l x = true ↔ x ∈ l := by
  unfold hasT
  rw [List.any_eq_true]
  exact ⟨fun ⟨y, hy, h⟩ => by rw [← of_decide_eq_true h]; exact hy, fun h => ⟨x, h, decide_eq_true rfl⟩⟩
theorem hasT_no {l : List ByteArray} {x : ByteArray} (h : ¬ x ∈ l) : hasT l x = false := by
  cases e : hasT l x with
  | false => rfl
  | true => exact absurd (hasT_iff.1 e) h
theorem take_has {l : List ByteArray} {k : Nat} (h : k < l.length) (x : ByteArray) : x ∈ l.take (k + 1) ↔ x ∈ l.take k ∨ x = l[k] := by
  rw [List.take_succ_eq_append_getElem h, List.mem_append, List.mem_singleton]
set_option maxRecDepth 100000 in
set_option maxHeartbeats 1000000 in
theorem index_txt (v : Value) (l : List ByteArray) (x : ByteArray) (w : World) (h : TxA w v l) :
    Calls Tryd.prog 185 #[v, .string x] w fun e w' => (∃ i : Int, e = .returned (.int .i64 i) ∧ Hid (decide (0 ≤ i) = hasT l x)) ∧ w' = w := by
  obtain ⟨A, c, rfl, h1, h2, hh⟩ := h
  have HH := hid hh
  obtain ⟨m, hm⟩ : ∃ m, l.length = m := ⟨_, rfl⟩
  have HM := hid hm
  rw [hm] at h1 ⊢
  clear hm hh
  go_enter Tryd.func185, Tryd.ntmps185
  go_wp2
  go_loopw [8] (fun vi wr => ∃ k : Nat, k ≤ m ∧ vi = .int .i64 k ∧ Hid (¬ x ∈ l.take k) ∧ wr = w) (fun vi _ => m - (intOf vi).toNat)
  case atStart => exact ⟨0, by omega, rfl, by show ¬ _; simp, rfl⟩
  case round =>
    obtain ⟨k, hk, rfl, HA, rfl⟩ := hrel
    by_cases hlt : k < m
    · have hkl : k < l.length := by rw [HM.out]; exact hlt
      obtain ⟨b, off, rfl, hc⟩ := HH.out (by omega)
      have x0 := hc k _ (List.getElem?_eq_getElem hkl)
      have HT := hid (take_has hkl x)
      obtain ⟨y, hy⟩ : ∃ y, l[k] = y := ⟨_, rfl⟩
      rw [hy] at x0 HT
      have HY := hid hy
      clear hc hy
      by_cases hxy : x = y
      · subst hxy
        go_wp2
        go_ret
        refine ⟨⟨_, rfl, ?_⟩, rfl⟩
        show _ = _
        rw [decide_eq_true (by omega), hasT_iff.2 (by rw [← HY.out]; exact List.getElem_mem hkl)]
      · have hyx : (x.toList == y.toList) = false := txt_ne hxy
        go_wp2
        go_roundw
        case rel =>
          refine ⟨k + 1, by omega, by go_num, ?_, trivial⟩
          show ¬ _
          rw [HT.out]
          exact fun h => h.elim HA.out hxy
        case measure => simp [intOf]; omega
    · go_wp2
      go_ret
      refine ⟨⟨_, rfl, ?_⟩, rfl⟩
      show _ = _
      have h1 := HA.out
      rw [List.take_of_length_le (by have := HM.out; omega)] at h1
      rw [hasT_no h1]
      rfl
set_option maxRecDepth 100000 in
theorem contains_txt (v : Value) (l : List ByteArray) (x : ByteArray) (w : World) (h : TxA w v l) :
    Calls Tryd.prog 137 #[v, .string x] w fun e w' => e = .returned (.bool (hasT l x)) ∧ w' = w := by
  have HI := hid (index_txt v l x w h)
  clear h
  go_enter Tryd.func137, Tryd.ntmps137
  go_wp2_with (go_at_call 185; refine HI.out.mono ?_; rintro e w2 ⟨⟨i, rfl, hi⟩, rfl⟩)
  go_ret
  rw [← hi.out]
  exact ⟨rfl, rfl⟩

set_option maxRecDepth 100000 in
set_option maxHeartbeats 4000000 in
/-- Both hold the same texts. -/
theorem samet_any (v1 v2 : Value) (l : List ByteArray) (w : World) (h1 : TxA w v1 l) (h2 : TxA w v2 l) : Calls Tryd.prog 71 #[v1, v2] w fun e w' => e = .returned (.bool true) ∧ Below w.heap.size w w' := by
  obtain ⟨A1, c1, rfl, p1, q1, g1⟩ := h1
  obtain ⟨A2, c2, rfl, p2, q2, g2⟩ := h2
  have G1 := hid g1
  have G2 := hid g2
  obtain ⟨n, hn⟩ : ∃ n, l.length = n := ⟨_, rfl⟩
  have HN := hid hn
  rw [hn] at p1 p2 ⊢
  clear g1 g2 hn
  go_enter Tryd.func71, Tryd.ntmps71
  go_wp2
  go_loopw [5] (fun vi wr => ∃ k : Nat, vi = .int .i64 (k : Int) ∧ k ≤ n ∧ Below w.heap.size w wr) (fun vi _ => n - (intOf vi).toNat)
  case atStart => exact ⟨0, rfl, Nat.zero_le _, Below.refl _ _⟩
  case round =>
    obtain ⟨k, rfl, hk, hb⟩ := hrel
    by_cases hkn : k < n
    · have hkl : k < l.length := by rw [HN.out]; exact hkn
      obtain ⟨b1, o1, rfl, x1⟩ := G1.out (by omega)
      obtain ⟨b2, o2, rfl, x2⟩ := G2.out (by omega)
      have x1 := x1 k _ (List.getElem?_eq_getElem hkl)
      have x2 := x2 k _ (List.getElem?_eq_getElem hkl)
      obtain ⟨x, hx⟩ : ∃ x, l[k] = x := ⟨_, rfl⟩
      rw [hx] at x1 x2
      have y1 : wr.cell? ⟨b1, o1 + k, none⟩ = some (.string x) := (hb.cell (p := ⟨b1, o1 + k, none⟩) (cell_lt x1)).trans x1
      have y2 : wr.cell? ⟨b2, o2 + k, none⟩ = some (.string x) := (hb.cell (p := ⟨b2, o2 + k, none⟩) (cell_lt x2)).trans x2
      have HB := hid hb
      clear hx x1 x2 hb hkl
      go_upto_region 6 with (fail)
      go_region
      all_goals
        go_wp2
        go_roundw
        case rel => exact ⟨k + 1, by go_num, by omega, by first | exact HB.out | exact HB.out.drew | exact Go.below_drewN HB.out _⟩
        case measure => simp [intOf]; omega
    · go_wp2
      go_ret
      exact ⟨rfl, hb⟩
end Go.Proofs.YtgfkobfkncpmoaaDoor
