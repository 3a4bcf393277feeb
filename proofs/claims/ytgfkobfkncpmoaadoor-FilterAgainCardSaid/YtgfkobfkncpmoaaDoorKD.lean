/- joistref00.CopyCells, and what is appended to lists of cells. Conditions: the slices hold their cells, a hundred thousand at most. -/
import Derived.Test.YtgfkobfkncpmoaaDoorP7
import Derived.Deep.AppendSrc
namespace Go.Proofs.YtgfkobfkncpmoaaDoor
open Go.RowKit

/-- Nothing is appended. -/
theorem run_append_nocell (w : World) (B : Nat) (v : Value) (l : List CT) (h : CRow w B v l) (c : Nat) : (Builtin.append_ #[39, 39] 39 #[v, .slice none 0 c]).run Tryd.prog w = .ok v w := by
  obtain ⟨i0, hi, hz0, hz1, hz2⟩ := info_parts info_cell
  obtain ⟨h1, h2⟩ := h
  rcases h2 with ⟨rfl, h0⟩ | ⟨g, cap, cur, rfl, hB, hh, hn, hm, hs, ht⟩
  · have h1 := run_underlying (P := Tryd.prog) Tryd.underlying39
    have hlen : (Builtin.lenOf (.slice none 0 c)).run Tryd.prog w = .ok 0 w := rfl
    simp [Builtin.append_, h1, sizeOf, typeInfo, hi, Builtin.firstCells, hlen]
  · have := run_append_room_src (P := Tryd.prog) (w := w) 39 39 39 28 i0 Tryd.underlying39 hi g 0 l.length cap (.slice none 0 c) 0 [] (Src.ofNil w Tryd.underlying39 c) (by omega) (fun j hj => absurd hj (by simp)) (fun j hj => absurd hj (by simp))
    rw [this]
    rfl

section
variable {ops : Array Oper} {rest : List Oper} {o : Oper} {a : Act} {Q : Exit → Act → World → Prop}
/-- append of a slice that holds some cells, or none, to a row of the call's own. -/
theorem wpList_append_cells (hgd : o.guard = Option.none) (s x : Operand)
    (ho : o.op = .call { callee := .builtin .append, args := #[s, x], argTypes := #[39, 39] }) (hty : o.type = 39)
    (w : World) (base : Nat) (v : Value) (l : List CT) (hs : a.eval s = v) (hown : CRow w base v l)
    (m : Value) (news : List CT) (hx : a.eval x = m) (hnews : ClA w m news)
    (hlen : l.length + news.length ≤ 1466015503700) (hbase : base ≤ w.heap.size)
    (h : ∀ v' w', CRow w' base v' (l ++ news) → Below base w w' → w.grownBy w' v.ownBlock → wpList Tryd.prog ops Q rest (a.put o.dst v') w') : wpList Tryd.prog ops Q (o :: rest) a w := by
  obtain ⟨i0, hi, hz0, hz1, hz2⟩ := info_parts info_cell
  obtain ⟨A, c, rfl, hc1, hc2, hh⟩ := hnews
  match A, hx, hh with
  | none, hx, hh =>
    have h0 : news = [] := by
      cases news with
      | nil => rfl
      | cons y t => obtain ⟨b, off, e, _⟩ := hh (by simp); cases e
    subst h0
    refine Lib.wpList_append_run w hgd s x 39 39 ho v _ hs hx v w ?_ (h v w (by rwa [List.append_nil]) (Below.refl _ _) ⟨rfl, rfl, rfl, Nat.le_refl _, fun _ _ _ => rfl⟩)
    rw [hty]
    exact run_append_nocell w base v l hown c
  | some ad, hx, hh =>
    refine wpList_append_own w hgd s x 39 ho base 28 i0 _ 8 96 Tryd.underlying39 hi hz0 hz1 hz2 rfl (by decide) v l.length (flatC l) hs hown ad news.length c (flatC news) hx (flatC_len news) (fun j u hu => ?_) (fun u hu => ?_) (by unfold maxLen; omega) (by omega) hbase ?_
    · have hj : j < (flatC news).length := by
        rcases Nat.lt_or_ge j (flatC news).length with h1 | h1
        · exact h1
        · rw [List.getElem?_eq_none h1] at hu; cases hu
      rw [flatC_len] at hj
      obtain ⟨b, off, e, hh2⟩ := hh (by omega)
      cases e
      have hi8 : j / 8 < news.length := by omega
      have h1 := hh2 (j / 8) hi8 (j % 8) (by omega)
      have h2 := flatC_at news (j / 8) (j % 8) hi8 (by omega)
      rw [show off + j / 8 * 8 + j % 8 = off + j by omega] at h1
      rw [show j / 8 * 8 + j % 8 = j by omega] at h2
      rw [add_zero_off, h1, ← h2]
      exact hu
    · have : ∀ (t : List CT), ∀ u ∈ flatC t, u.oneCell' = true := by
        intro t
        induction t with
        | nil => intro u hu; cases hu
        | cons y t ih =>
          intro u hu
          rcases List.mem_append.1 hu with hu | hu
          · exact y.e_one u hu
          · exact ih u hu
      exact this news u hu
    · intro v' w' h1 h2 _
      refine h v' w' ?_ ((Below.refl _ _).grown h2 hbase fun k hk => (World.ownsRow.lt hown k hk).1) h2
      unfold CRow
      rw [flatC_app, List.length_append]
      exact h1
end

theorem empty_crow (W : World) (B : Nat) (hB : B ≤ W.heap.size) : CRow (W.alloc (.cells #[] 28)) B (.slice (some ⟨W.heap.size, 0, none⟩) 0 0) [] := ⟨rfl, .inr ⟨W.heap.size, 0, #[], rfl, hB, Blk.new _ _ _, Nat.le_refl _, by unfold maxLen; omega, rfl, rfl⟩⟩
set_option maxHeartbeats 1000000 in
theorem copycells_any (v : Value) (l : List CT) (hl : l.length ≤ 1466015503658) (w : World) (h : ClA w v l) :
    Calls Tryd.prog 27 #[v] w fun e w' => ∃ v', e = .returned v' ∧ CRow w' w.heap.size v' l ∧ Below w.heap.size w w' := by
  have HS := hid h
  have HR := hid (empty_crow w w.heap.size (Nat.le_refl _))
  have HL := hid hl
  obtain ⟨A, c, rfl, _⟩ := h
  clear hl
  go_enter Tryd.func27, Tryd.ntmps27
  go_wp2_with (at_builtin; refine wpList_append_cells rfl (.tmp 5) (.tmp 6) rfl rfl _ w.heap.size _ [] rfl HR.out _ l rfl (HS.out.below (below_new w _)) (by have := HL.out; simp only [List.length_nil]; omega) (by simp) ?_; intro v' w' hR' hb' _)
  go_ret
  exact ⟨_, rfl, hR', (below_new w _).trans hb'⟩
end Go.Proofs.YtgfkobfkncpmoaaDoor
