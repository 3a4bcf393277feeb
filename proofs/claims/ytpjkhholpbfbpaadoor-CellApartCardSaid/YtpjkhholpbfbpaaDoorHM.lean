/- cell.Rows at every list of cells. Conditions: a hundred thousand cells at most. -/
import Derived.Test.YtpjkhholpbfbpaaDoorHL
import Derived.Test.YtpjkhholpbfbpaaDoorShelfB
import Derived.Lib.OwnBridge
import Derived.Lib.QuietBelow
namespace Go.Proofs.YtpjkhholpbfbpaaDoor
open Go.RowKit Go.Sort Go.Lib

/-- A row of the call's own that holds the texts ss. -/
def SRow (w : World) (B : Nat) (v : Value) (ss : List (List UInt8)) : Prop := w.ownsRow B 9 1 v ss.length (ss.map encStr)
theorem SRow.none (w : World) (B : Nat) : SRow w B (.slice none 0 0) [] := ⟨rfl, .inl ⟨rfl, rfl⟩⟩
theorem SRow.below {w w' : World} {B : Nat} {v : Value} {ss : List (List UInt8)} (h : SRow w B v ss) (hb : Below w.heap.size w w') : SRow w' B v ss := by
  refine ⟨h.1, ?_⟩
  rcases h.2 with h | ⟨g, cap, cur, e, h1, h2, hr⟩
  · exact .inl h
  · have hg : g < w.heap.size := by
      rcases Nat.lt_or_ge g w.heap.size with h' | h'
      · exact h'
      · rw [Array.getElem?_eq_none h'] at h2; cases h2
    exact .inr ⟨g, cap, cur, e, h1, by rw [hb.block g hg]; exact h2, hr⟩
theorem info_str : (Tryd.prog.info? 9).map (fun i => (i.zero, i.size, i.bytes)) = some (some (.string ⟨#[]⟩), 1, 16) := by kernel_rfl

section
variable {ops : Array Oper} {rest : List Oper} {o : Oper} {a : Act} {Q : Exit → Act → World → Prop}
set_option maxRecDepth 100000 in
/-- append of one text to a row of the call's own. -/
theorem wpList_append_text (hgd : o.guard = Option.none) (s x : Operand)
    (ho : o.op = .call { callee := .builtin .append, args := #[s, x], argTypes := #[69, 69] })
    (w : World) (base : Nat) (v : Value) (l : List (List UInt8)) (hs : a.eval s = v) (hown : SRow w base v l)
    (G : Nat) (m : Nat) (hx : a.eval x = .slice (some ⟨G, 0, Option.none⟩) 1 m) (y : ByteArray) (hc : w.cell? ⟨G, 0, Option.none⟩ = some (.string y))
    (hlen : l.length ≤ 100000) (hbase : base ≤ w.heap.size)
    (h : ∀ v' w', SRow w' base v' (l ++ [y.data.toList]) → Below base w w' → wpList Tryd.prog ops Q rest (a.put o.dst v') w') : wpList Tryd.prog ops Q (o :: rest) a w := by
  obtain ⟨i0, hi, hz0, hz1, hz2⟩ := info_parts info_str
  refine wpList_append_own w hgd s x 69 ho base 9 i0 _ 1 16 Tryd.underlying69 hi hz0 hz1 hz2 rfl (by decide) v l.length (l.map encStr) hs hown ⟨G, 0, Option.none⟩ 1 m [.string y] hx rfl (fun j u hu => ?_) (fun u hu => by rw [List.mem_singleton.1 hu]; rfl) (by unfold maxLen; omega) (by omega) hbase ?_
  · cases j with
    | zero =>
      injection hu with hu
      rw [← hu]
      exact hc
    | succ j => cases hu
  intro v' w' h1 h2 _
  refine h v' w' ?_ ((Below.refl _ _).grown h2 hbase fun k hk => (World.ownsRow.lt hown k hk).1)
  unfold SRow
  rw [List.map_append, List.length_append]
  exact h1
end

theorem below_grows (w : World) (os : Array Obj) : Below w.heap.size w (grow w os) := ⟨rfl, rfl, rfl, by simp [grow], fun k hk => by simp [grow, Array.getElem?_append_left hk]⟩
theorem srow_sort (B : Nat) (v : Value) (ss : List (List UInt8)) (hl : ss.length ≤ 100000) (w : World) (h : SRow w B v ss) (hB : B ≤ w.heap.size) :
    Calls Tryd.prog 78 #[v] w fun e w' => e = .returned (.tuple #[]) ∧ SRow w' B v (ss.mergeSort fun x y => decide (x ≤ y)) ∧ Below B w w' := by
  by_cases hv : v = .slice none 0 0
  · subst hv
    have e0 : ss = [] := by
      rcases h.2 with ⟨_, hz⟩ | ⟨g, cap, cur, e, _⟩
      · exact List.eq_nil_of_length_eq_zero hz
      · cases e
    subst e0
    refine (Tryd.slices_Sort_string_none none 0 w).mono ?_
    rintro e w' ⟨rfl, rfl⟩
    exact ⟨rfl, by rw [List.mergeSort_nil]; exact h, Below.refl _ _⟩
  · obtain ⟨g, cap, rfl, hBg, hgw, hc1, hc2, hl', hH⟩ := holds_of_ownsRow h hv
    refine (Tryd.slices_Sort_string g 0 cap ss w hH hgw (by omega)).mono ?_
    rintro e w' ⟨rfl, n, os, rfl⟩
    have hlen : (ss.mergeSort fun x y => decide (x ≤ y)).length = ss.length := List.length_mergeSort _
    have h1 := ownsRow_putRow (q := n) (k := ss.length) h hlen (Nat.le_refl _)
    rw [List.take_of_length_le (by rw [hlen]; exact Nat.le_refl _)] at h1
    have h2 : SRow (putRow encStr (Sort.ahead w n) g 0 (ss.mergeSort fun x y => decide (x ≤ y)).toArray) B (.slice (some ⟨g, 0, none⟩) ss.length cap) (ss.mergeSort fun x y => decide (x ≤ y)) := by
      unfold SRow
      rw [hlen]
      exact h1
    have hg := below_grows (putRow encStr (Sort.ahead w n) g 0 (ss.mergeSort fun x y => decide (x ≤ y)).toArray) os
    have hp : Below B w (putRow encStr (Sort.ahead w n) g 0 (ss.mergeSort fun x y => decide (x ≤ y)).toArray) := below_putRow (Below.refl _ _) hBg
    exact ⟨rfl, h2.below hg, hp.trans (hg.mono (Nat.le_trans hB hp.size))⟩
theorem srow_compact (B : Nat) (v : Value) (ss : List (List UInt8)) (hl : ss.length ≤ 100000) (w : World) (h : SRow w B v ss) (hB : B ≤ w.heap.size) :
    Calls Tryd.prog 79 #[v] w fun e w' => ∃ v', e = .returned v' ∧ SRow w' B v' (compact ss) ∧ Below B w w' := by
  by_cases hv : v = .slice none 0 0
  · subst hv
    have e0 : ss = [] := by
      rcases h.2 with ⟨_, hz⟩ | ⟨g, cap, cur, e, _⟩
      · exact List.eq_nil_of_length_eq_zero hz
      · cases e
    subst e0
    refine (Tryd.slices_Compact_string_empty none 0 w).mono ?_
    rintro e w' ⟨rfl, rfl⟩
    exact ⟨_, rfl, h, Below.refl _ _⟩
  · obtain ⟨g, cap, rfl, hBg, hgw, hc1, hc2, hl', hH⟩ := holds_of_ownsRow h hv
    refine (Tryd.slices_Compact_string g 0 cap ss w hH (by omega) hc1).mono ?_
    rintro e w' ⟨rfl, q, rfl⟩
    have hle : (compact ss).length ≤ ss.length := by
      unfold compact compactUpTo
      rw [List.length_map]
      exact Nat.le_trans (List.length_filter_le _ _) (by rw [List.length_range]; exact Nat.le_refl _)
    have hlen : (compact ss ++ List.replicate (ss.length - (compact ss).length) []).length = ss.length := by
      rw [List.length_append, List.length_replicate]; omega
    have h1 := ownsRow_putRow (q := q) (k := (compact ss).length) h hlen hle
    rw [List.take_left] at h1
    exact ⟨_, rfl, h1, below_putRow (Below.refl _ _) hBg⟩

/-- The rows of cells. -/
def rowsL (l : List CT) : List (List UInt8) := compact ((l.map fun c => c.r.data.toList).mergeSort fun x y => decide (x ≤ y))

set_option maxHeartbeats 4000000 in
set_option maxRecDepth 100000 in
theorem crows_any (v : Value) (l : List CT) (hl : l.length ≤ 100000) (w : World) (h : ClA w v l) :
    Calls Tryd.prog 47 #[v] w fun e w' => ∃ v', e = .returned v' ∧ SRow w' w.heap.size v' (rowsL l) ∧ Below w.heap.size w w' := by
  obtain ⟨A, cc, rfl, hc1, hc2, hh⟩ := h
  obtain ⟨n, hn⟩ : ∃ n, l.length = n := ⟨_, rfl⟩
  have HN := hid hn
  rw [hn] at hl hc1 hh ⊢
  have HH := hid hh
  have HS := hid srow_sort
  have HC := hid srow_compact
  have HN0 := hid (SRow.none w w.heap.size)
  clear hn hh
  go_enter Tryd.func47, Tryd.ntmps47
  go_wp2
  go_loopw [3, 8] (fun vo vi wr => ∃ i : Nat, i ≤ n ∧ vi = .int .i64 i ∧ Hid (SRow wr w.heap.size vo ((l.take i).map fun c => c.r.data.toList)) ∧ Hid (Below w.heap.size w wr)) (fun _ vi _ => n - (intOf vi).toNat)
  case atStart => exact ⟨0, Nat.zero_le _, rfl, HN0.out, Below.refl _ _⟩
  case round =>
    obtain ⟨i, hi, rfl, HO, HB⟩ := hrel
    by_cases hlt : i < n
    · have hin : i < l.length := by rw [HN.out]; exact hlt
      have hltz : (i : Int) < (n : Int) := by omega
      obtain ⟨b, off, rfl, hhc⟩ := HH.out (by omega)
      have hbw : b < w.heap.size := hhc.lt (by omega)
      obtain ⟨c, hc⟩ : ∃ c, l[i] = c := ⟨_, rfl⟩
      have P : wr.cell? ⟨b, off + i * 8, none⟩ = some (.string c.r) ∧ wr.cell? ⟨b, off + i * 8 + 1, none⟩ = some (.string c.f) ∧ wr.cell? ⟨b, off + i * 8 + 2, none⟩ = some (.string c.q) ∧ wr.cell? ⟨b, off + i * 8 + 3, none⟩ = some (.int .i64 c.t) ∧ wr.cell? ⟨b, off + i * 8 + 4, none⟩ = some (.int .i64 c.k) ∧ wr.cell? ⟨b, off + i * 8 + 5, none⟩ = some (.int .i64 c.vk) ∧ wr.cell? ⟨b, off + i * 8 + 6, none⟩ = some (.int .i64 c.vn) ∧ wr.cell? ⟨b, off + i * 8 + 7, none⟩ = some (.string c.s) := by
        rw [← hc]
        exact (hhc.below HB.out hbw).words i hin
      have HT : Hid ((l.take (i + 1)).map (fun c => c.r.data.toList) = (l.take i).map (fun c => c.r.data.toList) ++ [c.r.data.toList]) := by
        unfold Hid
        rw [List.take_add_one, List.getElem?_eq_getElem hin, hc, List.map_append]
        rfl
      have HLn : Hid (((l.take i).map fun c => c.r.data.toList).length ≤ 100000) := by
        unfold Hid
        rw [List.length_map, List.length_take]; omega
      obtain ⟨p0, p1, p2, p3, p4, p5, p6, p7⟩ := P
      clear hc hhc
      go_upto_region 5 with (fail)
      obtain ⟨bb, hbb⟩ : ∃ bb, wr.heap.size = bb := ⟨_, rfl⟩
      refine wp_ltc (fun W => Hid (Below wr.heap.size wr W) ∧ W.cell? ⟨bb, 0, none⟩ = some (.string c.r) ∧ W.cell? ⟨bb, 1, none⟩ = some (.string c.f) ∧ W.cell? ⟨bb, 2, none⟩ = some (.string c.q) ∧ W.cell? ⟨bb, 3, none⟩ = some (.int .i64 c.t) ∧ W.cell? ⟨bb, 4, none⟩ = some (.int .i64 c.k) ∧ W.cell? ⟨bb, 5, none⟩ = some (.int .i64 c.vk) ∧ W.cell? ⟨bb, 6, none⟩ = some (.int .i64 c.vn) ∧ W.cell? ⟨bb, 7, none⟩ = some (.string c.s)) (by rw [← hbb]; have hB := Blk.new wr 28 c.e.toArray; exact ⟨below_new _ _, blk_words hB⟩) (fun W hW => ?_)
      rw [hbb]
      obtain ⟨HW, b0, b1, b2, b3, b4, b5, b6, b7⟩ := hW
      have HB2 : Hid (Below w.heap.size w W) := HB.out.trans (HW.out.mono HB.out.size)
      have HO2 : Hid (SRow W w.heap.size _ ((l.take i).map fun c => c.r.data.toList)) := HO.out.below HW.out
      clear p0 p1 p2 p3 p4 p5 p6 p7 hbb HO HB
      go_wp2_with (at_builtin; refine wpList_append_text rfl (.tmp 12) (.tmp 15) rfl _ w.heap.size _ _ rfl (HO2.out.below (below_new _ _)) _ 1 rfl c.r (Blk.cell (T := 9) (Blk.new _ _ _) 0) HLn.out (by have := HB2.out.size; simp; omega) ?_; intro v6 w6 h6 hb6)
      go_roundw
      case rel => exact ⟨i + 1, by omega, by go_num, by rw [HT.out]; exact h6, (HB2.out.alloc HB2.out.size _).trans hb6⟩
      case measure => simp [intOf]; omega
    · obtain rfl : i = n := by omega
      have hO2 := HO.out
      rw [List.take_of_length_le (by rw [HN.out]; exact Nat.le_refl _)] at hO2
      have HO2 := hid hO2
      clear hO2
      have HLn : Hid ((l.map fun c => c.r.data.toList).length ≤ 100000) := by
        have := HN.out
        unfold Hid
        rw [List.length_map]; omega
      go_wp2_with (first
        | (go_at_call 78; refine (HS.out w.heap.size _ _ HLn.out wr HO2.out HB.out.size).mono ?_; rintro e w5 ⟨rfl, hS5, hb5⟩; have hl5 : ((l.map fun c => c.r.data.toList).mergeSort fun x y => decide (x ≤ y)).length ≤ 100000 := (by rw [List.length_mergeSort]; exact HLn.out))
        | (go_at_call 79; refine (HC.out w.heap.size _ _ hl5 w5 hS5 (Nat.le_trans HB.out.size hb5.size)).mono ?_; rintro e w6 ⟨v6, rfl, hS6, hb6⟩))
      go_ret
      exact ⟨_, rfl, hS6, (HB.out.trans hb5).trans hb6⟩
end Go.Proofs.YtpjkhholpbfbpaaDoor
