/- The filter's Clone, New and Apply. Conditions: the filter's texts and the cells stand; a hundred thousand cells at most. -/
import Derived.Test.YtgfkobfkncpmoaaDoorFtG
import Derived.Test.YtgfkobfkncpmoaaDoorKD
import Derived.Laws.Rows
namespace Go.Proofs.YtgfkobfkncpmoaaDoor
open Go.RowKit

set_option maxRecDepth 100000 in
/-- slices.Clone at texts: whose memory it is. -/
theorem clonet_own (v : Value) (l : List ByteArray) (hl : l.length ≤ 1000000) (w : World) (h : TxA w v l) :
    Calls Tryd.prog 133 #[v] w fun e w' => ∃ v', e = .returned v' ∧ Hid (TxA w' v' l ∧ (∀ g, v'.ownBlock = some g → w.heap.size ≤ g ∧ g < w'.heap.size) ∧ Below w.heap.size w w') := by
  have q22 : ∀ (w : World) (a : Option Addr) (n c n' c' : Nat), (binOp .eql 80 (.slice a n c) (.slice none n' c')).run Tryd.prog w = .ok (.bool a.isNone) w := fun w a n c n' c' => Lib.run_eql_slice_nil w _ _ a n c n' c' Tryd.underlying80
  obtain ⟨A, c, rfl, h1, h2, hh⟩ := h
  have HH := hid hh
  have HR := hid (empty_trow w w.heap.size (Nat.le_refl _))
  have HL := hid hl
  obtain ⟨n, hn⟩ : ∃ n, l.length = n := ⟨_, rfl⟩
  have HN := hid hn
  rw [hn] at h1 ⊢
  clear hl hh hn
  cases A with
  | none =>
    have h0 : l = [] := by
      by_cases h0 : 0 < l.length
      · obtain ⟨b, off, e, _⟩ := HH.out h0
        cases e
      · exact List.eq_nil_of_length_eq_zero (by omega)
    go_enter Tryd.func133, Tryd.ntmps133
    go_wp2
    go_ret
    refine ⟨.slice none 0 0, rfl, ?_, fun g hg => (by cases hg), Below.refl _ _⟩
    rw [h0]
    exact ⟨none, 0, rfl, Nat.le_refl _, by omega, fun h => absurd h (by simp)⟩
  | some p =>
    have HB : Hid (∀ (i : Nat) (y : ByteArray), l[i]? = some y → (w.alloc (.cells #[] 9)).cell? (p.add i) = some (.string y)) := fun i y hy => by
      have hi : i < l.length := (List.getElem?_eq_some_iff.1 hy).1
      obtain ⟨b, off, e, hc⟩ := HH.out (by omega)
      injection e with e
      have h9 := hc i y hy
      rw [e, add_zero_off]
      exact ((below_new w _).cell (p := ⟨b, off + i, none⟩) (cell_lt h9)).trans h9
    clear HH
    go_enter Tryd.func133, Tryd.ntmps133
    go_wp2_with (first
      | (at_builtin; refine wpList_append_txt9 rfl (.tmp 5) (.tmp 6) rfl _ w.heap.size _ [] rfl HR.out p c l (by rw [HN.out]; rfl) (fun i y hy => HB.out i y hy) (by have := HL.out; simp only [List.length_nil]; omega) (below_new w _).size ?_; intro v' w' hR' hb'))
    go_ret
    exact ⟨v', rfl, hR'.txa, fun g hg => World.ownsRow.lt hR' g hg, (below_new w _).trans hb'⟩

theorem tx_set13 {W : World} {u v : Value} {l : List ByteArray} {sb j : Nat} (h : TxA W u l) (hn : ∀ g, u.ownBlock = some g → g ≠ sb) : TxA (W.setCell ⟨sb, j, none⟩ v) u l := by
  obtain ⟨A, c, e, h1, h2, hh⟩ := h
  refine ⟨A, c, e, h1, h2, fun h0 => ?_⟩
  obtain ⟨b, off, e2, h⟩ := hh h0
  exact ⟨b, off, e2, fun i x hx => (World.cell?_of_block (a := ⟨b, off + i, none⟩) (Below.heap_setCell _ _ _ _ (hn b (by rw [e, e2]; rfl)))).trans (h i x hx)⟩
theorem below_set13 {w W : World} {B sb j : Nat} {v : Value} (h : Below B w W) (hn : B ≤ sb) : Below B w (W.setCell ⟨sb, j, none⟩ v) :=
  ⟨h.os, h.tape, h.output, by have := h.size; simpa using this, fun k hk => (Below.heap_setCell _ _ _ _ (show k ≠ sb by omega)).trans (h.block k hk)⟩
/-- What Clone answers. -/
def ClE (w : World) (f : FT) (e : Ending) (w' : World) : Prop := ∃ u', e = .returned (f.v u') ∧ Hid (TxA w' u' f.fams ∧ (∀ g, u'.ownBlock = some g → w.heap.size ≤ g ∧ g < w'.heap.size) ∧ Below w.heap.size w w')
set_option maxRecDepth 100000 in
set_option maxHeartbeats 4000000 in
theorem clone13_any (u : Value) (f : FT) (hl : f.fams.length ≤ 1000000) (w : World) (h : TxA w u f.fams) :
    Calls Tryd.prog 64 #[f.v u] w fun e w' => ClE w f e w' := by
  have HCl : Hid (∀ W, Below w.heap.size w W → Calls Tryd.prog 133 #[u] W fun e w' => ∃ v', e = .returned v' ∧ Hid (TxA w' v' f.fams ∧ (∀ g, v'.ownBlock = some g → W.heap.size ≤ g ∧ g < w'.heap.size) ∧ Below W.heap.size W w')) := fun W hW => clonet_own u f.fams hl W (h.below hW)
  have hB1 : Below w.heap.size w ((w.alloc (.cells #[u, .string f.fr, .string f.tq, .int .i64 f.si, .int .i64 f.un, .int .i64 f.ve, .int .i64 f.ro] 82)).alloc (.cells #[.slice none 0 0, .string ⟨#[]⟩, .string ⟨#[]⟩, .int .i64 0, .int .i64 0, .int .i64 0, .int .i64 0] 82)) := (below_new w _).trans ((below_new _ _).mono (by simp))
  have HB1 := hid hB1
  have HF : Hid (∀ W, Below (w.heap.size + 2) ((w.alloc (.cells #[u, .string f.fr, .string f.tq, .int .i64 f.si, .int .i64 f.un, .int .i64 f.ve, .int .i64 f.ro] 82)).alloc (.cells #[.slice none 0 0, .string ⟨#[]⟩, .string ⟨#[]⟩, .int .i64 0, .int .i64 0, .int .i64 0, .int .i64 0] 82)) W → FW W w.heap.size f u ∧ Blk W (w.heap.size + 1) 82 #[.slice none 0 0, .string ⟨#[]⟩, .string ⟨#[]⟩, .int .i64 0, .int .i64 0, .int .i64 0, .int .i64 0]) := fun W hW => by
    have k1 : FW (w.alloc (.cells #[u, .string f.fr, .string f.tq, .int .i64 f.si, .int .i64 f.un, .int .i64 f.ve, .int .i64 f.ro] 82)) w.heap.size f u := Blk.new w _ _
    have k2 := k1.below (below_new _ (.cells #[.slice none 0 0, .string ⟨#[]⟩, .string ⟨#[]⟩, .int .i64 0, .int .i64 0, .int .i64 0, .int .i64 0] 82))
    have k3 := Blk.new (w.alloc (.cells #[u, .string f.fr, .string f.tq, .int .i64 f.si, .int .i64 f.un, .int .i64 f.ve, .int .i64 f.ro] 82)) 82 #[.slice none 0 0, .string ⟨#[]⟩, .string ⟨#[]⟩, .int .i64 0, .int .i64 0, .int .i64 0, .int .i64 0]
    rw [show (w.alloc (.cells #[u, .string f.fr, .string f.tq, .int .i64 f.si, .int .i64 f.un, .int .i64 f.ve, .int .i64 f.ro] 82)).heap.size = w.heap.size + 1 by simp] at k3
    exact ⟨Blk.keep k2 hW (by omega), Blk.keep k3 hW (by omega)⟩
  clear h hl
  go_enter Tryd.func64, Tryd.ntmps64
  go_upto_region 1 with (fail)
  generalize hW1 : (w.alloc (.cells #[u, .string f.fr, .string f.tq, .int .i64 f.si, .int .i64 f.un, .int .i64 f.ve, .int .i64 f.ro] 82)).alloc (.cells #[.slice none 0 0, .string ⟨#[]⟩, .string ⟨#[]⟩, .int .i64 0, .int .i64 0, .int .i64 0, .int .i64 0] 82) = W1 at HF HB1 hB1 ⊢
  have HF1 := hid (HF.out W1 (Below.refl _ _))
  have hz : W1.heap.size = w.heap.size + 2 := by rw [← hW1]; simp
  obtain ⟨y0, y1, y2, y3, y4, y5, y6⟩ := HF1.out.1.words
  have HCl1 := hid (HCl.out W1 hB1)
  clear HF1 hW1 hB1 HCl
  go_upto_region 2 with (first | (go_at_call 133; refine HCl1.out.mono ?_; rintro e W2 ⟨v2, rfl, H2⟩; obtain ⟨A2, c2, rfl, -⟩ := H2.out.1; have HF2 := hid (HF.out W2 (by rw [← hz]; exact H2.out.2.2)); have f0 : W2.frozen? ⟨w.heap.size, 0, none⟩ = false := Blk.free HF2.out.1 0; have y0' : W2.cell? ⟨w.heap.size, 0, none⟩ = some u := HF2.out.1.words.1))
  have H3 : Hid ((FW (W2.setCell ⟨w.heap.size, 0, none⟩ (.slice A2 f.fams.length c2)) w.heap.size f (.slice A2 f.fams.length c2) ∧ Blk (W2.setCell ⟨w.heap.size, 0, none⟩ (.slice A2 f.fams.length c2)) (w.heap.size + 1) 82 #[.slice none 0 0, .string ⟨#[]⟩, .string ⟨#[]⟩, .int .i64 0, .int .i64 0, .int .i64 0, .int .i64 0]) ∧ (TxA (W2.setCell ⟨w.heap.size, 0, none⟩ (.slice A2 f.fams.length c2)) (.slice A2 f.fams.length c2) f.fams ∧ (∀ g, (Value.slice A2 f.fams.length c2).ownBlock = some g → w.heap.size + 2 ≤ g ∧ g < (W2.setCell ⟨w.heap.size, 0, none⟩ (.slice A2 f.fams.length c2)).heap.size) ∧ Below w.heap.size w (W2.setCell ⟨w.heap.size, 0, none⟩ (.slice A2 f.fams.length c2)))) := by
    have hb2 := HB1.out.trans (H2.out.2.2.mono HB1.out.size)
    exact ⟨⟨Blk.set HF2.out.1 0 _, (Below.heap_setCell _ _ _ _ (show w.heap.size + 1 ≠ w.heap.size by omega)).trans HF2.out.2⟩, tx_set13 H2.out.1 (fun g hg => by have := (H2.out.2.1 g hg).1; omega), fun g hg => by have := H2.out.2.1 g hg; rw [← hz]; simpa using this, below_set13 hb2 (Nat.le_refl _)⟩
  generalize W2.setCell ⟨w.heap.size, 0, none⟩ (.slice A2 f.fams.length c2) = W3 at H3 ⊢
  clear H2 HF2 f0 y0' y0 y1 y2 y3 y4 y5 y6 HCl1 hz
  obtain ⟨y0, y1, y2, y3, y4, y5, y6⟩ := H3.out.1.1.words
  have z0 := H3.out.1.2.cell 0
  have z1 := H3.out.1.2.cell 1
  have z2 := H3.out.1.2.cell 2
  have z3 := H3.out.1.2.cell 3
  have z4 := H3.out.1.2.cell 4
  have z5 := H3.out.1.2.cell 5
  have z6 := H3.out.1.2.cell 6
  have hfz := H3.out.1.2.free
  have HE : Hid (∀ (B : Nat), B = w.heap.size + 1 → (TxA ((((((((W3.setCell ⟨B, 0, none⟩ (.slice A2 f.fams.length c2)).setCell ⟨B, 1, none⟩ (.string f.fr)).setCell ⟨B, 2, none⟩ (.string f.tq)).setCell ⟨B, 3, none⟩ (.int .i64 f.si)).setCell ⟨B, 4, none⟩ (.int .i64 f.un)).setCell ⟨B, 5, none⟩ (.int .i64 f.ve)).setCell ⟨B, 6, none⟩ (.int .i64 f.ro))) (.slice A2 f.fams.length c2) f.fams ∧ (∀ g, (Value.slice A2 f.fams.length c2).ownBlock = some g → w.heap.size ≤ g ∧ g < ((((((((W3.setCell ⟨B, 0, none⟩ (.slice A2 f.fams.length c2)).setCell ⟨B, 1, none⟩ (.string f.fr)).setCell ⟨B, 2, none⟩ (.string f.tq)).setCell ⟨B, 3, none⟩ (.int .i64 f.si)).setCell ⟨B, 4, none⟩ (.int .i64 f.un)).setCell ⟨B, 5, none⟩ (.int .i64 f.ve)).setCell ⟨B, 6, none⟩ (.int .i64 f.ro))).heap.size) ∧ Below w.heap.size w ((((((((W3.setCell ⟨B, 0, none⟩ (.slice A2 f.fams.length c2)).setCell ⟨B, 1, none⟩ (.string f.fr)).setCell ⟨B, 2, none⟩ (.string f.tq)).setCell ⟨B, 3, none⟩ (.int .i64 f.si)).setCell ⟨B, 4, none⟩ (.int .i64 f.un)).setCell ⟨B, 5, none⟩ (.int .i64 f.ve)).setCell ⟨B, 6, none⟩ (.int .i64 f.ro))) ∧ Blk ((((((((W3.setCell ⟨B, 0, none⟩ (.slice A2 f.fams.length c2)).setCell ⟨B, 1, none⟩ (.string f.fr)).setCell ⟨B, 2, none⟩ (.string f.tq)).setCell ⟨B, 3, none⟩ (.int .i64 f.si)).setCell ⟨B, 4, none⟩ (.int .i64 f.un)).setCell ⟨B, 5, none⟩ (.int .i64 f.ve)).setCell ⟨B, 6, none⟩ (.int .i64 f.ro))) B 82 #[.slice A2 f.fams.length c2, .string f.fr, .string f.tq, .int .i64 f.si, .int .i64 f.un, .int .i64 f.ve, .int .i64 f.ro])) := by
    intro B hB
    have hn : ∀ g, (Value.slice A2 f.fams.length c2).ownBlock = some g → g ≠ B := fun g hg => by have := (H3.out.2.2.1 g hg).1; omega
    have hB2 : w.heap.size ≤ B := by omega
    exact ⟨tx_set13 (tx_set13 (tx_set13 (tx_set13 (tx_set13 (tx_set13 (tx_set13 H3.out.2.1 hn) hn) hn) hn) hn) hn) hn, fun g hg => by have := H3.out.2.2.1 g hg; simp; omega, below_set13 (below_set13 (below_set13 (below_set13 (below_set13 (below_set13 (below_set13 H3.out.2.2.2 hB2) hB2) hB2) hB2) hB2) hB2) hB2, by rw [hB]; exact ((((((H3.out.1.2.set 0 _).set 1 _).set 2 _).set 3 _).set 4 _).set 5 _).set 6 _⟩
  have hi7 : (Tryd.prog.info? 82).map (·.size) = some 7 := by kernel_rfl
  go_wp2
  refine bodyPost_ret (v := f.v (.slice A2 f.fams.length c2)) (results_cell_row rfl _ _ (w.heap.size + 1) 82 #[.slice A2 f.fams.length c2, .string f.fr, .string f.tq, .int .i64 f.si, .int .i64 f.un, .int .i64 f.ve, .int .i64 f.ro] (0, 0) _ rfl (HE.out _ rfl).2.2.2 Tryd.underlying82 rfl hi7) rfl ?_
  have h9 := HE.out _ rfl
  exact ⟨.slice A2 f.fams.length c2, rfl, h9.1, h9.2.1, h9.2.2.1⟩
end Go.Proofs.YtgfkobfkncpmoaaDoor
