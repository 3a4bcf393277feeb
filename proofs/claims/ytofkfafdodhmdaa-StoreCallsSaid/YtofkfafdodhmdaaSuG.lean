/- Appends to the document's rows; Names, take. Conditions: the disk stands. -/
import Derived.Test.YtofkfafdodhmdaaSuF
namespace Go.Proofs.Ytofkfafdodhmdaa
open Go.RowKit

theorem info_str : (Try.prog.info? 9).map (fun i => (i.zero, i.size, i.bytes)) = some (some (.string ⟨#[]⟩), 1, 16) := by kernel_rfl
theorem info_loose : (Try.prog.info? 66).map (fun i => (i.zero, i.size, i.bytes)) = some (some (.agg #[.int .i64 0, .int .u8 0]), 2, 16) := by kernel_rfl
theorem info_file : (Try.prog.info? 64).map (fun i => (i.zero, i.size, i.bytes)) = some (some (.agg #[.string ⟨#[]⟩, .int .i64 0, .slice none 0 0, .bool false]), 4, 56) := by kernel_rfl
theorem own_low {w : World} {N M sz n : Nat} {T : TypeId} {v : Value} {xs : List Value} (h : w.ownsRow N T sz v n xs) (hM : M ≤ N) : w.ownsRow M T sz v n xs :=
  ⟨h.1, h.2.imp id fun ⟨g, cap, cur, e, hg, rest⟩ => ⟨g, cap, cur, e, Nat.le_trans hM hg, rest⟩⟩
theorem own_made (w : World) (T : TypeId) (sz N : Nat) (hN : N ≤ w.heap.size) (h0 : 0 * sz = 0) : (w.alloc (.cells #[] T)).ownsRow N T sz (.slice (some ⟨w.heap.size, 0, none⟩) 0 0) 0 [] :=
  ⟨h0.symm, .inr ⟨w.heap.size, 0, #[], rfl, hN, heap_alloc_new w _, Nat.le_refl _, Nat.zero_le _, h0.symm, by simp⟩⟩
/-- A row stays when another of another type is appended to. -/
theorem own_beside {w w' : World} {N N' sz sz' n n' : Nat} {T T' : TypeId} {v v' : Value} {xs xs' : List Value} (h : w.ownsRow N T sz v n xs) (h' : w.ownsRow N' T' sz' v' n' xs') (hT : T ≠ T') (hg : w.grownBy w' v'.ownBlock) : w'.ownsRow N T sz v n xs :=
  own_block0 h fun g q => by
    obtain ⟨cur, hc⟩ := own_blk h q
    refine hg.block g hc.lt fun e => ?_
    obtain ⟨cur2, hc2⟩ := own_blk h' e.symm
    exact blk_ne0 hc hc2 hT rfl
section
variable {ops : Array Oper} {rest : List Oper} {o : Oper} {a : Act} {Q : Exit → Act → World → Prop}
/-- append of a text. -/
theorem wpList_append_tx (hgd : o.guard = Option.none) (s x : Operand)
    (ho : o.op = .call { callee := .builtin .append, args := #[s, x], argTypes := #[42, 42] })
    (w : World) (base : Nat) (v : Value) (l : List ByteArray) (hs : a.eval s = v) (hown : SRowS w base v l)
    (G c : Nat) (y : ByteArray) (hx : a.eval x = .slice (some ⟨G, 0, Option.none⟩) 1 c) (hc : ∀ j u, ([.string y] : List Value)[j]? = some u → w.cell? ((⟨G, 0, Option.none⟩ : Addr).add j) = some u)
    (hlen : l.length ≤ 1000000) (hbase : base ≤ w.heap.size)
    (h : ∀ v' w', SRowS w' base v' (l ++ [y]) → w.grownBy w' v.ownBlock → wpList Try.prog ops Q rest (a.put o.dst v') w') : wpList Try.prog ops Q (o :: rest) a w := by
  obtain ⟨i0, hi, hz0, hz1, hz2⟩ := info_parts info_str
  refine wpList_append_own_at w hgd s x 42 ho base 9 i0 _ 1 16 Try.underlying42 hi hz0 hz1 hz2 rfl (by decide) v l.length (l.map Value.string) hs hown ⟨G, 0, Option.none⟩ 1 c [.string y] hx rfl hc (fun u hu => by simp at hu; subst hu; rfl) (by unfold maxLen; omega) (by omega) hbase ?_
  intro v' w' h1 h2 _ _
  refine h v' w' ?_ h2
  unfold SRowS
  rw [List.map_append, List.length_append]
  exact h1
/-- append of a byte that doesn't last. -/
theorem wpList_append_lz (hgd : o.guard = Option.none) (s x : Operand)
    (ho : o.op = .call { callee := .builtin .append, args := #[s, x], argTypes := #[47, 47] })
    (w : World) (base : Nat) (v : Value) (l : List Lm) (hs : a.eval s = v) (hown : LRow w base v l)
    (G c : Nat) (y : Lm) (hx : a.eval x = .slice (some ⟨G, 0, Option.none⟩) 1 c) (hc : ∀ j u, (encL y)[j]? = some u → w.cell? ((⟨G, 0, Option.none⟩ : Addr).add j) = some u)
    (hlen : l.length ≤ 1000000) (hbase : base ≤ w.heap.size)
    (h : ∀ v' w', LRow w' base v' (l ++ [y]) → w.grownBy w' v.ownBlock → wpList Try.prog ops Q rest (a.put o.dst v') w') : wpList Try.prog ops Q (o :: rest) a w := by
  obtain ⟨i0, hi, hz0, hz1, hz2⟩ := info_parts info_loose
  refine wpList_append_own_at w hgd s x 47 ho base 66 i0 _ 2 16 Try.underlying47 hi hz0 hz1 hz2 rfl (by decide) v l.length (flatL l) hs hown ⟨G, 0, Option.none⟩ 1 c (encL y) hx rfl hc (fun u hu => by simp [encL] at hu; rcases hu with rfl | rfl <;> rfl) (by unfold maxLen; omega) (by omega) hbase ?_
  intro v' w' h1 h2 _ _
  refine h v' w' ?_ h2
  unfold LRow
  rw [flatL_app, List.length_append]
  exact h1
end
theorem srow_form {w : World} {B : Nat} {v : Value} {l : List ByteArray} (h : SRowS w B v l) {n : Nat} (hn : l.length = n) : ∃ A c, v = .slice A n c := by
  rcases h.2 with ⟨e, e2⟩ | ⟨g, cap, _, e, _⟩
  · exact ⟨none, 0, by rw [e, ← hn, e2]⟩
  · exact ⟨_, cap, by rw [e, hn]⟩

/-- The names so far. -/
structure NmS (w wr : World) (v : Value) (l : List ByteArray) : Prop where
  b : Below w.heap.size w wr
  row : SRowS wr w.heap.size v l
theorem NmS.next {w wr w1 w2 : World} {v v' : Value} {l l' : List ByteArray} (h : NmS w wr v l) (hb : Below wr.heap.size wr w1) (hr : SRowS w2 w.heap.size v' l') (hg : w1.grownBy w2 v.ownBlock) : NmS w w2 v' l' :=
  ⟨(h.b.trans (hb.mono h.b.size)).grown hg (h.b.trans (hb.mono h.b.size)).size fun k e => (World.ownsRow.lt h.row k e).1, hr⟩

set_option maxRecDepth 100000 in
set_option maxHeartbeats 4000000 in
theorem rnames_ok {w : World} {B rb nx : Nat} {fv lv : Value} {ms : List Rm} {ls : List Lm} {z : Int} (h : Rk w B rb fv lv ms ls z nx) (hl : ms.length ≤ 1000000) :
    Calls Try.prog 21 #[.pointer (some ⟨rb, 0, none⟩)] w fun e w' => ∃ v, e = .returned v ∧ SRowS w' w.heap.size v (ms.map Rm.n) ∧ Below w.heap.size w w' := by
  obtain ⟨n, hn1⟩ : ∃ n, ms.length = n := ⟨_, rfl⟩
  obtain ⟨A, c, rfl⟩ := mrow_form h.fr hn1
  have m0 : w.cell? ⟨rb, 0, none⟩ = some (.slice A n c) := h.blk.cell 0
  have H := hid h
  have HN1 := hid hn1
  rw [hn1] at hl
  have HST : Hid (NmS w (w.alloc (.cells #[] 9)) (.slice (some ⟨w.heap.size, 0, none⟩) 0 0) []) := ⟨below_new w _, own_made w _ 1 _ (Nat.le_refl _) rfl⟩
  clear h hn1
  go_enter Try.func21, Try.ntmps21
  go_wp2
  go_loopw [3, 4] (fun vn vi wr => ∃ (k q : Nat) (A2 : Option Addr), vn = .slice A2 k q ∧ vi = .int .i64 (k : Int) ∧ k ≤ n ∧ Hid (NmS w wr (.slice A2 k q) ((ms.map Rm.n).take k))) (fun _ vi _ => n - (intOf vi).toNat)
  case atStart => exact ⟨0, 0, _, rfl, rfl, Nat.zero_le _, HST.out⟩
  case round =>
    obtain ⟨k, q, A2, rfl, rfl, hk, HI⟩ := hrel
    have m3 : wr.cell? ⟨rb, 0, none⟩ = some (.slice A n c) := (HI.out.b.cell (p := ⟨rb, 0, none⟩) (cell_lt m0)).trans m0
    by_cases hkn : k < n
    · have hkl : k < ms.length := by rw [HN1.out]; exact hkn
      obtain ⟨g, rfl, hc⟩ := mrow_at H.out.fr hkl
      have q0 := hc 0 _ (by omega) rfl
      rw [Nat.add_zero] at q0
      have q1 : wr.cell? ⟨g, k * 4, none⟩ = some (.string ms[k].n) := (HI.out.b.cell (p := ⟨g, k * 4, none⟩) (cell_lt q0)).trans q0
      have HDE : Hid ((ms.map Rm.n).take (k + 1) = (ms.map Rm.n).take k ++ [ms[k].n]) := by
        unfold Hid
        rw [List.take_succ_eq_append_getElem (by rw [List.length_map]; exact hkl), List.getElem_map]
      have HDL : Hid (((ms.map Rm.n).take k).length = k) := by
        unfold Hid
        rw [List.length_take, List.length_map]
        omega
      obtain ⟨y, hy⟩ : ∃ y, ms[k].n = y := ⟨_, rfl⟩
      rw [hy] at q1 HDE
      clear hc q0 hy hkl m0
      go_wp2_with (at_builtin; refine wpList_append_tx rfl _ _ rfl _ w.heap.size (.slice A2 k q) _ rfl (own_block0 HI.out.row fun g2 hg2 => (below_new wr _).block g2 (World.ownsRow.lt HI.out.row g2 hg2).2) _ _ y rfl (cell_one_new _ _ _) (by rw [HDL.out]; omega) (by have := HI.out.b.size; simp; omega) ?_; intro v2 w2 hr2 hg2)
      have hst := HI.out.next (below_new wr _) hr2 hg2
      rw [← HDE.out] at hst
      have e4 : ∃ A6 c6, v2 = .slice A6 (k + 1) c6 := srow_form hr2 (by rw [List.length_append, HDL.out]; rfl)
      obtain ⟨A6, c6, rfl⟩ := e4
      have HSt := hid hst
      clear hst hr2 hg2
      go_wp2
      go_roundw
      case rel => exact ⟨k + 1, c6, A6, rfl, by go_num, by omega, HSt.out⟩
      case measure => simp [intOf]; omega
    · obtain rfl : k = n := by omega
      have hr := HI.out.row
      rw [List.take_of_length_le (by rw [List.length_map, HN1.out]; exact Nat.le_refl _)] at hr
      have HR := hid hr
      clear hr
      go_wp2
      go_ret
      exact ⟨_, rfl, HR.out, HI.out.b⟩
end Go.Proofs.Ytofkfafdodhmdaa
