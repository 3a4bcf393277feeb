/- Several texts in one: SuG SuH SuI SuJ. Conditions: as each theorem names them. -/
import Derived.Test.YtofkfafdodhmdaaGreatDoorStJ
import Derived.Test.YtofkfafdodhmdaaGreatDoorOA
/- Appends to the document's rows; Names, take. Conditions: the disk stands. -/
namespace Go.Proofs.YtofkfafdodhmdaaGreatDoor
open Go.RowKit

theorem info_str : (Tryz.prog.info? 9).map (fun i => (i.zero, i.size, i.bytes)) = some (some (.string ⟨#[]⟩), 1, 16) := by kernel_rfl
theorem info_loose : (Tryz.prog.info? 111).map (fun i => (i.zero, i.size, i.bytes)) = some (some (.agg #[.int .i64 0, .int .u8 0]), 2, 16) := by kernel_rfl
theorem info_file : (Tryz.prog.info? 109).map (fun i => (i.zero, i.size, i.bytes)) = some (some (.agg #[.string ⟨#[]⟩, .int .i64 0, .slice none 0 0, .bool false]), 4, 56) := by kernel_rfl
theorem own_low {w : World} {N M sz n : Nat} {T : TypeId} {v : Value} {xs : List Value} (h : w.ownsRow N T sz v n xs) (hM : M ≤ N) : w.ownsRow M T sz v n xs :=
  ⟨h.1, h.2.imp id fun ⟨g, cap, cur, e, hg, rest⟩ => ⟨g, cap, cur, e, Nat.le_trans hM hg, rest⟩⟩
theorem own_made (w : World) (T : TypeId) (sz N : Nat) (hN : N ≤ w.heap.size) (h0 : 0 * sz = 0) : (w.alloc (.cells #[] T)).ownsRow N T sz (.slice (some ⟨w.heap.size, 0, none⟩) 0 0) 0 [] :=
  ⟨h0.symm, .inr ⟨w.heap.size, 0, #[], rfl, hN, heap_alloc_new w _, Nat.le_refl _, Nat.zero_le _, h0.symm, by simp⟩⟩
/-- A row stays when another of another type is appended to. -/
theorem own_beside {w w' : World} {N N' sz sz' n n' : Nat} {T T' : TypeId} {v v' : Value} {xs xs' : List Value} (h : w.ownsRow N T sz v n xs) (h' : w.ownsRow N' T' sz' v' n' xs') (hT : T ≠ T') (hg : w.grownBy w' v'.ownBlock) : w'.ownsRow N T sz v n xs :=
  own_block0 h fun g q => by
    obtain ⟨cur, hc⟩ := own_blk h q
    refine hg.block g hc.lt fun e => ?_
    obtain ⟨cur2, hc2⟩ := own_blk h' e.symm
    exact blk_ne0 hc hc2 hT rfl
section
variable {ops : Array Oper} {rest : List Oper} {o : Oper} {a : Act} {Q : Exit → Act → World → Prop}
/-- append of a text. -/
theorem wpList_append_tx (hgd : o.guard = Option.none) (s x : Operand)
    (ho : o.op = .call { callee := .builtin .append, args := #[s, x], argTypes := #[65, 65] })
    (w : World) (base : Nat) (v : Value) (l : List ByteArray) (hs : a.eval s = v) (hown : SRowS w base v l)
    (G c : Nat) (y : ByteArray) (hx : a.eval x = .slice (some ⟨G, 0, Option.none⟩) 1 c) (hc : ∀ j u, ([.string y] : List Value)[j]? = some u → w.cell? ((⟨G, 0, Option.none⟩ : Addr).add j) = some u)
    (hlen : l.length ≤ 1000000) (hbase : base ≤ w.heap.size)
    (h : ∀ v' w', SRowS w' base v' (l ++ [y]) → w.grownBy w' v.ownBlock → wpList Tryz.prog ops Q rest (a.put o.dst v') w') : wpList Tryz.prog ops Q (o :: rest) a w := by
  obtain ⟨i0, hi, hz0, hz1, hz2⟩ := info_parts info_str
  refine wpList_append_own_at w hgd s x 65 ho base 9 i0 _ 1 16 Tryz.underlying65 hi hz0 hz1 hz2 rfl (by decide) v l.length (l.map Value.string) hs hown ⟨G, 0, Option.none⟩ 1 c [.string y] hx rfl hc (fun u hu => by simp at hu; subst hu; rfl) (by unfold maxLen; omega) (by omega) hbase ?_
  intro v' w' h1 h2 _ _
  refine h v' w' ?_ h2
  unfold SRowS
  rw [List.map_append, List.length_append]
  exact h1
/-- append of a byte that doesn't last. -/
theorem wpList_append_lz (hgd : o.guard = Option.none) (s x : Operand)
    (ho : o.op = .call { callee := .builtin .append, args := #[s, x], argTypes := #[92, 92] })
    (w : World) (base : Nat) (v : Value) (l : List Lm) (hs : a.eval s = v) (hown : LRow w base v l)
    (G c : Nat) (y : Lm) (hx : a.eval x = .slice (some ⟨G, 0, Option.none⟩) 1 c) (hc : ∀ j u, (encL y)[j]? = some u → w.cell? ((⟨G, 0, Option.none⟩ : Addr).add j) = some u)
    (hlen : l.length ≤ 1000000) (hbase : base ≤ w.heap.size)
    (h : ∀ v' w', LRow w' base v' (l ++ [y]) → w.grownBy w' v.ownBlock → wpList Tryz.prog ops Q rest (a.put o.dst v') w') : wpList Tryz.prog ops Q (o :: rest) a w := by
  obtain ⟨i0, hi, hz0, hz1, hz2⟩ := info_parts info_loose
  refine wpList_append_own_at w hgd s x 92 ho base 111 i0 _ 2 16 Tryz.underlying92 hi hz0 hz1 hz2 rfl (by decide) v l.length (flatL l) hs hown ⟨G, 0, Option.none⟩ 1 c (encL y) hx rfl hc (fun u hu => by simp [encL] at hu; rcases hu with rfl | rfl <;> rfl) (by unfold maxLen; omega) (by omega) hbase ?_
  intro v' w' h1 h2 _ _
  refine h v' w' ?_ h2
  unfold LRow
  rw [flatL_app, List.length_append]
  exact h1
end
theorem srow_form {w : World} {B : Nat} {v : Value} {l : List ByteArray} (h : SRowS w B v l) {n : Nat} (hn : l.length = n) : ∃ A c, v = .slice A n c := by
  rcases h.2 with ⟨e, e2⟩ | ⟨g, cap, _, e, _⟩
  · exact ⟨none, 0, by rw [e, ← hn, e2]⟩
  · exact ⟨_, cap, by rw [e, hn]⟩

/-- The names so far. -/
structure NmS (w wr : World) (v : Value) (l : List ByteArray) : Prop where
  b : Below w.heap.size w wr
  row : SRowS wr w.heap.size v l
theorem NmS.next {w wr w1 w2 : World} {v v' : Value} {l l' : List ByteArray} (h : NmS w wr v l) (hb : Below wr.heap.size wr w1) (hr : SRowS w2 w.heap.size v' l') (hg : w1.grownBy w2 v.ownBlock) : NmS w w2 v' l' :=
  ⟨(h.b.trans (hb.mono h.b.size)).grown hg (h.b.trans (hb.mono h.b.size)).size fun k e => (World.ownsRow.lt h.row k e).1, hr⟩

set_option maxRecDepth 100000 in
set_option maxHeartbeats 4000000 in
theorem rnames_ok {w : World} {B rb nx : Nat} {fv lv : Value} {ms : List Rm} {ls : List Lm} {z : Int} (h : Rk w B rb fv lv ms ls z nx) (hl : ms.length ≤ 1000000) :
    Calls Tryz.prog 34 #[.pointer (some ⟨rb, 0, none⟩)] w fun e w' => ∃ v, e = .returned v ∧ SRowS w' w.heap.size v (ms.map Rm.n) ∧ Below w.heap.size w w' := by
  obtain ⟨n, hn1⟩ : ∃ n, ms.length = n := ⟨_, rfl⟩
  obtain ⟨A, c, rfl⟩ := mrow_form h.fr hn1
  have m0 : w.cell? ⟨rb, 0, none⟩ = some (.slice A n c) := h.blk.cell 0
  have H := hid h
  have HN1 := hid hn1
  rw [hn1] at hl
  have HST : Hid (NmS w (w.alloc (.cells #[] 9)) (.slice (some ⟨w.heap.size, 0, none⟩) 0 0) []) := ⟨below_new w _, own_made w _ 1 _ (Nat.le_refl _) rfl⟩
  clear h hn1
  go_enter Tryz.func34, Tryz.ntmps34
  go_wp2
  go_loopw [3, 4] (fun vn vi wr => ∃ (k q : Nat) (A2 : Option Addr), vn = .slice A2 k q ∧ vi = .int .i64 (k : Int) ∧ k ≤ n ∧ Hid (NmS w wr (.slice A2 k q) ((ms.map Rm.n).take k))) (fun _ vi _ => n - (intOf vi).toNat)
  case atStart => exact ⟨0, 0, _, rfl, rfl, Nat.zero_le _, HST.out⟩
  case round =>
    obtain ⟨k, q, A2, rfl, rfl, hk, HI⟩ := hrel
    have m3 : wr.cell? ⟨rb, 0, none⟩ = some (.slice A n c) := (HI.out.b.cell (p := ⟨rb, 0, none⟩) (cell_lt m0)).trans m0
    by_cases hkn : k < n
    · have hkl : k < ms.length := by rw [HN1.out]; exact hkn
      obtain ⟨g, rfl, hc⟩ := mrow_at H.out.fr hkl
      have q0 := hc 0 _ (by omega) rfl
      rw [Nat.add_zero] at q0
      have q1 : wr.cell? ⟨g, k * 4, none⟩ = some (.string ms[k].n) := (HI.out.b.cell (p := ⟨g, k * 4, none⟩) (cell_lt q0)).trans q0
      have HDE : Hid ((ms.map Rm.n).take (k + 1) = (ms.map Rm.n).take k ++ [ms[k].n]) := by
        unfold Hid
        rw [List.take_succ_eq_append_getElem (by rw [List.length_map]; exact hkl), List.getElem_map]
      have HDL : Hid (((ms.map Rm.n).take k).length = k) := by
        unfold Hid
        rw [List.length_take, List.length_map]
        omega
      obtain ⟨y, hy⟩ : ∃ y, ms[k].n = y := ⟨_, rfl⟩
      rw [hy] at q1 HDE
      clear hc q0 hy hkl m0
      go_wp2_with (at_builtin; refine wpList_append_tx rfl _ _ rfl _ w.heap.size (.slice A2 k q) _ rfl (own_block0 HI.out.row fun g2 hg2 => (below_new wr _).block g2 (World.ownsRow.lt HI.out.row g2 hg2).2) _ _ y rfl (cell_one_new _ _ _) (by rw [HDL.out]; omega) (by have := HI.out.b.size; simp; omega) ?_; intro v2 w2 hr2 hg2)
      have hst := HI.out.next (below_new wr _) hr2 hg2
      rw [← HDE.out] at hst
      have e4 : ∃ A6 c6, v2 = .slice A6 (k + 1) c6 := srow_form hr2 (by rw [List.length_append, HDL.out]; rfl)
      obtain ⟨A6, c6, rfl⟩ := e4
      have HSt := hid hst
      clear hst hr2 hg2
      go_wp2
      go_roundw
      case rel => exact ⟨k + 1, c6, A6, rfl, by go_num, by omega, HSt.out⟩
      case measure => simp [intOf]; omega
    · obtain rfl : k = n := by omega
      have hr := HI.out.row
      rw [List.take_of_length_le (by rw [List.length_map, HN1.out]; exact Nat.le_refl _)] at hr
      have HR := hid hr
      clear hr
      go_wp2
      go_ret
      exact ⟨_, rfl, HR.out, HI.out.b⟩
end Go.Proofs.YtofkfafdodhmdaaGreatDoor

/- The document's take. Conditions: the disk stands. -/
namespace Go.Proofs.YtofkfafdodhmdaaGreatDoor
open Go.RowKit

/-- Other bytes that don't last. -/
theorem Rk.bytes {w w1 : World} {B rb nx : Nat} {fv lv v : Value} {ms : List Rm} {ls ls' : List Lm} {z : Int} (h : Rk w B rb fv lv ms ls z nx) (hk : ∀ k, Rt rb fv (.slice none 0 0) ms k → w1.heap[k]? = w.heap[k]?) (hr : LRow w1 B v ls') :
    Rk (w1.setCell ⟨rb, 1, none⟩ v) B rb fv v ms ls' z nx := by
  have b1 : Blk w1 rb 94 #[fv, lv, .int .i64 z, .int .i64 (nx : Int)] := (hk rb (.inl rfl)).trans h.blk
  have ks : ∀ k, k ≠ rb → (w1.setCell ⟨rb, 1, none⟩ v).heap[k]? = w1.heap[k]? := fun k q => Below.heap_setCell _ _ _ _ q
  refine ⟨h.lo, b1.set 1 v, own_block0 h.fr fun g q => ?_, own_block0 hr fun g q => ?_, fun m hm => own_block0 (h.sr m hm) fun g q => ?_, h.ap⟩
  · obtain ⟨cur, hc⟩ := own_blk h.fr q
    exact (ks g (blk_ne0 hc h.blk (by decide))).trans (hk g (.inr (.inl q)))
  · obtain ⟨cur, hc⟩ := own_blk hr q
    exact ks g (blk_ne0 hc b1 (by decide))
  · obtain ⟨cur, hc⟩ := own_blk (h.sr m hm) q
    exact (ks g (blk_ne0 hc h.blk (by decide))).trans (hk g (.inr (.inr (.inr ⟨m, hm, q⟩))))
def ofNo (no : Nat) (x : Lm) : Bool := decide (x.1 = no)
def bytesM (ls : List Lm) (no : Nat) : List UInt8 := (ls.filter (ofNo no)).map Prod.snd
def outM (ls : List Lm) (no : Nat) : List Lm := ls.filter fun x => !ofNo no x
theorem filter_take {α : Type} {l : List α} {k : Nat} (h : k < l.length) (p : α → Bool) : (l.take (k + 1)).filter p = (l.take k).filter p ++ if p l[k] = true then [l[k]] else [] := by
  rw [List.take_succ_eq_append_getElem h, List.filter_append, List.filter_cons, List.filter_nil]
theorem holds_one (w : World) (x : UInt8) : HoldsA (w.alloc (.cells #[.int .u8 (x.toNat : Int)] 5)) (some ⟨w.heap.size, 0, none⟩) [x] := fun _ => ⟨w.heap.size, 0, rfl, fun j hj => by
  obtain rfl : j = 0 := by
    simp at hj
    exact hj
  exact World.cell?_alloc_at _ _ _ _ rfl⟩
theorem grown_own {w w1 w2 : World} {N sz n : Nat} {T : TypeId} {v : Value} {xs : List Value} (hb : Below w.heap.size w w1) (h : w1.ownsRow w.heap.size T sz v n xs) (hg : w1.grownBy w2 v.ownBlock) (_ : N = 0) : Below w.heap.size w w2 :=
  hb.grown hg hb.size fun k e => (World.ownsRow.lt h k e).1
/-- What is taken so far. -/
structure TkR (w wr : World) (vo vr : Value) (ls : List Lm) (no : Nat) : Prop where
  b : Below w.heap.size w wr
  out : Row wr w.heap.size vo (bytesM ls no)
  rest : LRow wr w.heap.size vr (outM ls no)

set_option maxRecDepth 100000 in
set_option maxHeartbeats 4000000 in
theorem rtake_ok {w : World} {B rb nx : Nat} {fv lv : Value} {ms : List Rm} {ls : List Lm} {z : Int} (h : Rk w B rb fv lv ms ls z nx) (hl : ls.length ≤ 1000000) (no : Nat) :
    Calls Tryz.prog 90 #[.pointer (some ⟨rb, 0, none⟩), .int .i64 (no : Int)] w fun e w' => ∃ v v2, e = .returned v ∧ Row w' w.heap.size v (bytesM ls no) ∧ Rk w' B rb fv v2 ms (outM ls no) z nx ∧ Chg (fun k => k = rb) w w' ∧ (∀ g, v2.ownBlock = some g → w.heap.size ≤ g) := by
  obtain ⟨n, hn1⟩ : ∃ n, ls.length = n := ⟨_, rfl⟩
  obtain ⟨A, c, rfl⟩ := lrow_form h.lr hn1
  have m0 : w.cell? ⟨rb, 1, none⟩ = some (.slice A n c) := h.blk.cell 1
  have H := hid h
  have HN1 := hid hn1
  rw [hn1] at hl
  have HB0 : B ≤ w.heap.size := Nat.le_trans h.lo (Nat.le_of_lt h.blk.lt)
  have HBB := hid HB0
  have HST : Hid (TkR w ((w.alloc (.cells #[] 5)).alloc (.cells #[] 111)) (.slice (some ⟨w.heap.size, 0, none⟩) 0 0) (.slice (some ⟨w.heap.size + 1, 0, none⟩) 0 0) [] no) :=
    ⟨(below_new w _).trans ((below_new _ _).mono (by simp)), own_block0 (own_made w 5 1 _ (Nat.le_refl _) rfl) fun g q => (below_new _ _).block g (by cases q; simp), by
      have := own_made (w.alloc (.cells #[] 5)) 111 2 w.heap.size (by simp) rfl
      rw [World.size_alloc] at this
      exact this⟩
  have HFz : Hid (w.frozen? ⟨rb, 1, none⟩ = false) := h.blk.free 1
  clear h hn1 HB0
  go_enter Tryz.func90, Tryz.ntmps90
  go_wp2
  go_loopw [5, 6, 7] (fun vo vr vi wr => ∃ (k n1 c1 n2 c2 : Nat) (A1 A2 : Option Addr), vo = .slice A1 n1 c1 ∧ vr = .slice A2 n2 c2 ∧ vi = .int .i64 (k : Int) ∧ k ≤ n ∧ Hid (TkR w wr (.slice A1 n1 c1) (.slice A2 n2 c2) (ls.take k) no)) (fun _ _ vi _ => n - (intOf vi).toNat)
  case atStart => exact ⟨0, 0, 0, 0, 0, _, _, rfl, rfl, rfl, Nat.zero_le _, HST.out⟩
  case round =>
    obtain ⟨k, n1, c1, n2, c2, A1, A2, rfl, rfl, rfl, hk, HI⟩ := hrel
    have m3 : wr.cell? ⟨rb, 1, none⟩ = some (.slice A n c) := (HI.out.b.cell (p := ⟨rb, 1, none⟩) (cell_lt m0)).trans m0
    by_cases hkn : k < n
    · have hkl : k < ls.length := by rw [HN1.out]; exact hkn
      obtain ⟨g, rfl, q0, q1⟩ := lrow_at H.out.lr hkl
      have y0 : wr.cell? ⟨g, k * 2, none⟩ = some (.int .i64 (ls[k].1 : Int)) := (HI.out.b.cell (p := ⟨g, k * 2, none⟩) (cell_lt q0)).trans q0
      have y1 : wr.cell? ⟨g, k * 2 + 1, none⟩ = some (.int .u8 (ls[k].2.toNat : Int)) := (HI.out.b.cell (p := ⟨g, k * 2 + 1, none⟩) (cell_lt q1)).trans q1
      have hf1 := filter_take hkl (ofNo no)
      have hf2 := filter_take hkl (fun x => !ofNo no x)
      have hlen1 : (bytesM (ls.take k) no).length ≤ k := by
        unfold bytesM
        rw [List.length_map]
        refine Nat.le_trans (List.length_filter_le _ _) ?_
        rw [List.length_take]
        omega
      have hlen2 : (outM (ls.take k) no).length ≤ k := by
        unfold outM
        refine Nat.le_trans (List.length_filter_le _ _) ?_
        rw [List.length_take]
        omega
      obtain ⟨y, hy⟩ : ∃ y, ls[k] = y := ⟨_, rfl⟩
      rw [hy] at y0 y1 hf1 hf2
      obtain ⟨yn, yb⟩ := y
      have HL1 := hid hlen1
      have HL2 := hid hlen2
      clear hy q0 q1 hlen1 hlen2 hkl m0
      by_cases hq : yn = no
      · have HO : Hid (bytesM (ls.take (k + 1)) no = bytesM (ls.take k) no ++ [yb] ∧ outM (ls.take (k + 1)) no = outM (ls.take k) no) := by
          unfold Hid bytesM outM
          rw [hf1, hf2, if_pos (show ofNo no (yn, yb) = true from decide_eq_true hq), if_neg (by rw [show ofNo no (yn, yb) = true from decide_eq_true hq]; decide), List.map_append, List.append_nil]
          exact ⟨rfl, rfl⟩
        clear hf1 hf2
        subst hq
        go_wp2_with (at_builtin; refine wpList_append_at rfl _ _ rfl _ w.heap.size (.slice A1 n1 c1) _ rfl (own_block0 HI.out.out fun g2 hg2 => (below_new wr _).block g2 (World.ownsRow.lt HI.out.out g2 hg2).2) _ _ [yb] rfl (by simp) (holds_one _ _) (by have := HL1.out; simp; omega) (by have := HI.out.b.size; simp; omega) ?_; intro v2 w2 hr2 hg2 _)
        have hb1 := HI.out.b.trans ((below_new wr (.cells #[.int .u8 (yb.toNat : Int)] 5)).mono HI.out.b.size)
        have hro := own_block0 (w' := wr.alloc (.cells #[.int .u8 (yb.toNat : Int)] 5)) HI.out.out fun g2 hg2 => (below_new wr _).block g2 (World.ownsRow.lt HI.out.out g2 hg2).2
        have hrr := own_block0 (w' := wr.alloc (.cells #[.int .u8 (yb.toNat : Int)] 5)) HI.out.rest fun g2 hg2 => (below_new wr _).block g2 (World.ownsRow.lt HI.out.rest g2 hg2).2
        have hst : TkR w w2 v2 (.slice A2 n2 c2) (ls.take (k + 1)) yn := ⟨grown_own hb1 hro hg2 rfl, by rw [HO.out.1]; exact hr2, by rw [HO.out.2]; exact own_beside hrr hro (by decide) hg2⟩
        obtain ⟨A6, c6, e6⟩ := row_form hr2 rfl
        obtain ⟨n6, hn6⟩ : ∃ n6, (bytesM (ls.take k) yn ++ [yb]).length = n6 := ⟨_, rfl⟩
        rw [hn6] at e6
        subst e6
        have HSt := hid hst
        clear hb1 hro hrr hst hr2 hg2 hn6
        go_roundw
        case rel => exact ⟨k + 1, n6, c6, n2, c2, A6, A2, rfl, rfl, by go_num, by omega, HSt.out⟩
        case measure => simp [intOf]; omega
      · have HO : Hid (bytesM (ls.take (k + 1)) no = bytesM (ls.take k) no ∧ outM (ls.take (k + 1)) no = outM (ls.take k) no ++ [(yn, yb)]) := by
          unfold Hid bytesM outM
          rw [hf1, hf2, if_neg (by rw [show ofNo no (yn, yb) = false from decide_eq_false hq]; decide), if_pos (by rw [show ofNo no (yn, yb) = false from decide_eq_false hq]; rfl), List.append_nil]
          exact ⟨rfl, rfl⟩
        have hq2 : ¬ (yn : Int) = (no : Int) := by omega
        clear hf1 hf2
        go_wp2_with (at_builtin; refine wpList_append_lz rfl _ _ rfl _ w.heap.size (.slice A2 n2 c2) _ rfl (own_block0 HI.out.rest fun g2 hg2 => (below_new wr _).block g2 (World.ownsRow.lt HI.out.rest g2 hg2).2) _ _ (yn, yb) rfl (cell_two wr (.int .i64 (yn : Int)) (.int .u8 (yb.toNat : Int)) _) (by have := HL2.out; omega) (by have := HI.out.b.size; simp; omega) ?_; intro v2 w2 hr2 hg2)
        have hb1 := HI.out.b.trans ((below_new wr (.cells #[.int .i64 (yn : Int), .int .u8 (yb.toNat : Int)] 111)).mono HI.out.b.size)
        have hro := own_block0 (w' := wr.alloc (.cells #[.int .i64 (yn : Int), .int .u8 (yb.toNat : Int)] 111)) HI.out.out fun g2 hg2 => (below_new wr _).block g2 (World.ownsRow.lt HI.out.out g2 hg2).2
        have hrr := own_block0 (w' := wr.alloc (.cells #[.int .i64 (yn : Int), .int .u8 (yb.toNat : Int)] 111)) HI.out.rest fun g2 hg2 => (below_new wr _).block g2 (World.ownsRow.lt HI.out.rest g2 hg2).2
        have hst : TkR w w2 (.slice A1 n1 c1) v2 (ls.take (k + 1)) no := ⟨grown_own hb1 hrr hg2 rfl, by rw [HO.out.1]; exact own_beside hro hrr (by decide) hg2, by rw [HO.out.2]; exact hr2⟩
        obtain ⟨A6, c6, e6⟩ := lrow_form hr2 rfl
        obtain ⟨n6, hn6⟩ : ∃ n6, (outM (ls.take k) no ++ [(yn, yb)]).length = n6 := ⟨_, rfl⟩
        rw [hn6] at e6
        subst e6
        have HSt := hid hst
        clear hb1 hro hrr hst hr2 hg2 hn6
        go_roundw
        case rel => exact ⟨k + 1, n1, c1, n6, c6, A1, A6, rfl, rfl, by go_num, by omega, HSt.out⟩
        case measure => simp [intOf]; omega
    · obtain rfl : k = n := by omega
      have hi := HI.out
      rw [List.take_of_length_le (by rw [HN1.out]; exact Nat.le_refl _)] at hi
      have HIf := hid hi
      have q9 : wr.frozen? ⟨rb, 1, none⟩ = false := (HI.out.b.frozen (p := ⟨rb, 1, none⟩) (cell_lt m0)).trans HFz.out
      clear hi
      go_wp2
      go_ret
      refine ⟨_, _, rfl, ?_, H.out.bytes (fun q hq => HIf.out.b.block q (H.out.rt (by rcases hq with q | q | q | q; exact .inl q; exact .inr (.inl q); cases q; exact .inr (.inr (.inr q)))).2) (own_low HIf.out.rest HBB.out), (Chg.of_below (fun q => q = rb) HIf.out.b).trans (Chg.of_set wr rb 1 _ (S := fun q => q = rb) rfl) (fun q hq => .inl hq), fun g hg => (World.ownsRow.lt HIf.out.rest g hg).1⟩
      refine own_block0 HIf.out.out fun g hg => Below.heap_setCell _ _ _ _ ?_
      have h1 := (World.ownsRow.lt HIf.out.out g hg).1
      have h2 := H.out.blk.lt
      intro e
      have e2 : g = rb := e
      omega
end Go.Proofs.YtofkfafdodhmdaaGreatDoor

/- The document's put and cut. Conditions: the disk stands. -/
namespace Go.Proofs.YtofkfafdodhmdaaGreatDoor
open Go.RowKit

/-- Nothing is appended to a row of files. -/
theorem run_append_nofile (w : World) (B : Nat) (v : Value) (l : List Rm) (h : MRow w B v l) (c : Nat) : (Builtin.append_ #[91, 91] 91 #[v, .slice none 0 c]).run Tryz.prog w = .ok v w := by
  obtain ⟨i0, hi, hz0, hz1, hz2⟩ := info_parts info_file
  obtain ⟨h1, h2⟩ := h
  rcases h2 with ⟨rfl, h0⟩ | ⟨g, cap, cur, rfl, hB, hh, hn, hm, hs, ht⟩
  · have h1 := run_underlying (P := Tryz.prog) Tryz.underlying91
    have hlen : (Builtin.lenOf (.slice none 0 c)).run Tryz.prog w = .ok 0 w := rfl
    simp [Builtin.append_, h1, sizeOf, typeInfo, hi, Builtin.firstCells, hlen]
  · have := run_append_room_src (P := Tryz.prog) (w := w) 91 91 91 109 i0 Tryz.underlying91 hi g 0 l.length cap (.slice none 0 c) 0 [] (Src.ofNil w Tryz.underlying91 c) (by omega) (fun j hj => absurd hj (by simp)) (fun j hj => absurd hj (by simp))
    rw [this]
    rfl
/-- A slice holds files. -/
def HoldM (w : World) (A : Option Addr) (l : List Rm) : Prop := l ≠ [] → ∃ b o, A = some ⟨b, o, none⟩ ∧ ∀ j u, (flatM l)[j]? = some u → w.cell? ⟨b, o + j, none⟩ = some u
theorem HoldM.below {w w' : World} {A : Option Addr} {l : List Rm} (h : HoldM w A l) (hb : Below w.heap.size w w') : HoldM w' A l := fun h0 => by
  obtain ⟨b, o, e, hh⟩ := h h0
  exact ⟨b, o, e, fun j u hu => (hb.cell (p := ⟨b, o + j, none⟩) (cell_lt (hh j u hu))).trans (hh j u hu)⟩
theorem add_off (b o j : Nat) : (⟨b, o, none⟩ : Addr).add j = ⟨b, o + j, none⟩ := by
  by_cases h : j = 0
  · subst h; rfl
  · simp [Addr.add, h]
theorem encM_one {m : Rm} (hv : m.sv.oneCell' = true) : ∀ u ∈ encM m, u.oneCell' = true := fun u hu => by
  simp [encM] at hu
  rcases hu with rfl | rfl | rfl | rfl
  · rfl
  · rfl
  · exact hv
  · rfl
theorem row_one {w : World} {B : Nat} {v : Value} {l : List UInt8} (h : Row w B v l) : v.oneCell' = true := by
  obtain ⟨A, c, e⟩ := row_form h rfl
  rw [e]
  rfl
section
variable {ops : Array Oper} {rest : List Oper} {o : Oper} {a : Act} {Q : Exit → Act → World → Prop}
/-- append of files. -/
theorem wpList_append_fs (hgd : o.guard = Option.none) (s x : Operand)
    (ho : o.op = .call { callee := .builtin .append, args := #[s, x], argTypes := #[91, 91] }) (hty : o.type = 91)
    (w : World) (base : Nat) (v : Value) (l : List Rm) (hs : a.eval s = v) (hown : MRow w base v l)
    (A : Option Addr) (m c : Nat) (news : List Rm) (hm : news.length = m) (hx : a.eval x = .slice A m c) (hnews : HoldM w A news) (h1 : ∀ f ∈ news, f.sv.oneCell' = true)
    (hlen : l.length + m ≤ 1000000) (hbase : base ≤ w.heap.size)
    (h : ∀ v' w', MRow w' base v' (l ++ news) → w.grownBy w' v.ownBlock → wpList Tryz.prog ops Q rest (a.put o.dst v') w') : wpList Tryz.prog ops Q (o :: rest) a w := by
  obtain ⟨i0, hi, hz0, hz1, hz2⟩ := info_parts info_file
  have hone : ∀ u ∈ flatM news, u.oneCell' = true := fun u hu => by
    obtain ⟨f, hf, hu⟩ := List.mem_flatMap.1 hu
    exact encM_one (h1 f hf) u hu
  have fin : ∀ v' w', w'.ownsRow base 109 4 v' (l.length + m) (flatM l ++ flatM news) → w.grownBy w' v.ownBlock → wpList Tryz.prog ops Q rest (a.put o.dst v') w' := fun v' w' g1 g2 => by
    refine h v' w' ?_ g2
    unfold MRow
    rw [flatM_app, List.length_append, hm]
    exact g1
  match A, hx, hnews with
  | none, hx, hnews =>
    have h0 : news = [] := by
      cases news with
      | nil => rfl
      | cons y t => obtain ⟨b, o, e, _⟩ := hnews (by simp); cases e
    subst h0
    obtain rfl : m = 0 := hm.symm
    refine Lib.wpList_append_run w hgd s x 91 91 ho v _ hs hx v w ?_ (h v w (by rw [List.append_nil]; exact hown) (World.grownBy.refl _ _))
    rw [hty]
    exact run_append_nofile w base v l hown c
  | some ad, hx, hnews =>
    refine wpList_append_own_at w hgd s x 91 ho base 109 i0 _ 4 56 Tryz.underlying91 hi hz0 hz1 hz2 rfl (by decide) v l.length (flatM l) hs hown ad m c (flatM news) hx (by rw [flatM_len, hm]) (fun j u hu => ?_) hone (by unfold maxLen; omega) (by omega) hbase fun v' w' g1 g2 _ _ => fin v' w' g1 g2
    cases news with
    | nil => cases hu
    | cons y t =>
      obtain ⟨b', o', e, hh⟩ := hnews (by simp)
      cases e
      rw [add_off]
      exact hh j u hu
end
/-- The first files of a row. -/
theorem hold_left {w : World} {B n c : Nat} {A : Option Addr} {P Q : List Rm} (h : MRow w B (.slice A n c) (P ++ Q)) : HoldM w A P := fun h0 => by
  rcases h.2 with ⟨e, e2⟩ | ⟨g, cap, cur, e, _⟩
  · cases P with
    | nil => exact absurd rfl h0
    | cons y t => simp at e2
  · injection e with e1 e2 e3
    subst e1 e2 e3
    refine ⟨g, 0, rfl, fun j u hu => ?_⟩
    refine (own_cells h ?_).1
    rw [Nat.zero_add, flatM_app, List.getElem?_append_left]
    · exact hu
    · exact (List.getElem?_eq_some_iff.1 hu).1
/-- The last files of a row. -/
theorem hold_right {w : World} {B n c k : Nat} {g : Nat} {P Q : List Rm} (h : MRow w B (.slice (some ⟨g, 0, none⟩) n c) (P ++ Q)) (hk : k = P.length * 4) : HoldM w (some ⟨g, k, none⟩) Q := fun _ => by
  rcases h.2 with ⟨e, _⟩ | ⟨g', cap, cur, e, _⟩
  · cases e
  · injection e with e1 e2 e3
    subst e2 e3
    refine ⟨g, k, rfl, fun j u hu => ?_⟩
    refine (own_cells h ?_).1
    rw [flatM_app, List.getElem?_append_right (by rw [flatM_len]; omega), flatM_len, hk]
    rw [show P.length * 4 + j - P.length * 4 = j by omega]
    exact hu
theorem mrow_cap {w : World} {B n c : Nat} {A : Option Addr} {l : List Rm} (h : MRow w B (.slice A n c) l) (hn : l.length = n) : n ≤ c ∧ c ≤ 9223372036854775807 := by
  rcases h.2 with ⟨e, e2⟩ | ⟨g, cap, cur, e, _, _, h1, h2, _⟩
  · injection e with _ _ e3
    omega
  · injection e with _ _ e3
    unfold maxLen at h2
    omega
theorem mrow_some {w : World} {B n c : Nat} {A : Option Addr} {l : List Rm} (h : MRow w B (.slice A n c) l) : (A = none ∧ l = [] ∧ c = 0) ∨ ∃ g, A = some ⟨g, 0, none⟩ := by
  rcases h.2 with ⟨e, e2⟩ | ⟨g, cap, cur, e, _⟩
  · injection e with e1 _ e3
    exact .inl ⟨e1, List.eq_nil_of_length_eq_zero e2, e3⟩
  · injection e with e1
    exact .inr ⟨g, e1⟩
theorem hold_new (w : World) (m : Rm) (t : TypeId) : HoldM (w.alloc (.cells #[.string m.n, .int .i64 (m.no : Int), m.sv, .bool m.h] t)) (some ⟨w.heap.size, 0, none⟩) [m] := fun _ => ⟨w.heap.size, 0, rfl, fun j u hu => by
  have e : flatM [m] = [.string m.n, .int .i64 (m.no : Int), m.sv, .bool m.h] := by unfold flatM; simp [encM]
  rw [e] at hu
  rw [World.cell?_alloc_at _ _ _ _ rfl, Nat.zero_add]
  simpa using hu⟩
/-- Other files. -/
theorem Rk.files {w w1 : World} {B rb nx : Nat} {fv lv v : Value} {ms ms' : List Rm} {ls : List Lm} {z : Int} (h : Rk w B rb fv lv ms ls z nx) (hb : Below w.heap.size w w1) (hr : MRow w1 B v ms') (hs : ∀ m ∈ ms', Row w B m.sv m.s) (ha : ms'.Pairwise Rm.apart) :
    Rk (w1.setCell ⟨rb, 0, none⟩ v) B rb v lv ms' ls z nx := by
  have b1 : Blk w1 rb 94 #[fv, lv, .int .i64 z, .int .i64 (nx : Int)] := (hb.block rb h.blk.lt).trans h.blk
  have ks : ∀ k, k ≠ rb → (w1.setCell ⟨rb, 0, none⟩ v).heap[k]? = w1.heap[k]? := fun k q => Below.heap_setCell _ _ _ _ q
  refine ⟨h.lo, b1.set 0 v, own_block0 hr fun g q => ?_, own_block0 h.lr fun g q => ?_, fun m hm => own_block0 (hs m hm) fun g q => ?_, ha⟩
  · obtain ⟨cur, hc⟩ := own_blk hr q
    exact ks g (blk_ne0 hc b1 (by decide))
  · obtain ⟨cur, hc⟩ := own_blk h.lr q
    exact (ks g (blk_ne0 hc h.blk (by decide))).trans (hb.block g hc.lt)
  · obtain ⟨cur, hc⟩ := own_blk (hs m hm) q
    exact (ks g (blk_ne0 hc h.blk (by decide))).trans (hb.block g hc.lt)

set_option maxRecDepth 100000 in
set_option maxHeartbeats 4000000 in
theorem rput_ok {w : World} {B rb nx : Nat} {fv lv : Value} {P Q : List Rm} {ls : List Lm} {z : Int} (h : Rk w B rb fv lv (P ++ Q) ls z nx) (hl : (P ++ Q).length ≤ 100000) (m : Rm) (hm : Row w B m.sv m.s) (ha : ∀ q ∈ P ++ Q, m.apart q ∧ q.apart m) (i : Nat) (hi : P.length = i) :
    Calls Tryz.prog 62 #[.pointer (some ⟨rb, 0, none⟩), .int .i64 (i : Int), .agg #[.string m.n, .int .i64 (m.no : Int), m.sv, .bool m.h]] w fun e w' => e = .returned (.tuple #[]) ∧ ∃ v, Rk w' B rb v lv (P ++ m :: Q) ls z nx ∧ Chg (fun k => k = rb) w w' ∧ (∀ g, v.ownBlock = some g → w.heap.size ≤ g) := by
  obtain ⟨n, hn1⟩ : ∃ n, (P ++ Q).length = n := ⟨_, rfl⟩
  obtain ⟨A, c, rfl⟩ := mrow_form h.fr hn1
  have m0 : w.cell? ⟨rb, 0, none⟩ = some (.slice A n c) := h.blk.cell 0
  have H := hid h
  have HN1 := hid hn1
  have HP := hid hi
  have hin : i ≤ n := by rw [← hi, ← hn1, List.length_append]; exact Nat.le_add_right _ _
  rw [hn1] at hl
  obtain ⟨hcap, hc63⟩ := mrow_cap h.fr hn1
  have hic : i ≤ c := Nat.le_trans hin hcap
  have HAd : Hid ((A = none ∧ P ++ Q = [] ∧ c = 0) ∨ ∃ g, A = some ⟨g, 0, none⟩) := mrow_some h.fr
  obtain ⟨As, cs, es⟩ := row_form hm rfl
  obtain ⟨ns, hns⟩ : ∃ ns, m.s.length = ns := ⟨_, rfl⟩
  rw [hns] at es
  have HES := hid es
  have HM := hid hm
  have HA := hid ha
  rw [es]
  clear h hn1 hi hns es hm ha
  go_enter Tryz.func62, Tryz.ntmps62
  go_upto_region 2 with (fail)
  have hb0 : Below w.heap.size w ((w.alloc (.cells #[.string m.n, .int .i64 (m.no : Int), .slice As ns cs, .bool m.h] 109)).alloc (.cells #[] 109)) := (below_new w _).trans ((below_new _ _).mono (by simp))
  have hr0 : MRow ((w.alloc (.cells #[.string m.n, .int .i64 (m.no : Int), .slice As ns cs, .bool m.h] 109)).alloc (.cells #[] 109)) w.heap.size (.slice (some ⟨w.heap.size + 1, 0, none⟩) 0 0) [] := by
    have := own_made (w.alloc (.cells #[.string m.n, .int .i64 (m.no : Int), .slice As ns cs, .bool m.h] 109)) 109 4 w.heap.size (by simp) rfl
    rw [World.size_alloc] at this
    exact this
  have hx0 : Blk ((w.alloc (.cells #[.string m.n, .int .i64 (m.no : Int), .slice As ns cs, .bool m.h] 109)).alloc (.cells #[] 109)) w.heap.size 109 #[.string m.n, .int .i64 (m.no : Int), .slice As ns cs, .bool m.h] := ((below_new _ _).block w.heap.size (by simp)).trans (Blk.new w _ _)
  obtain ⟨W0, hW0⟩ : ∃ W0, ((w.alloc (.cells #[.string m.n, .int .i64 (m.no : Int), .slice As ns cs, .bool m.h] 109)).alloc (.cells #[] 109)) = W0 := ⟨_, rfl⟩
  obtain ⟨G, hG⟩ : ∃ G, w.heap.size = G := ⟨_, rfl⟩
  have HGe := hid hG
  rw [hW0] at hb0 hr0 hx0 ⊢
  rw [hG] at hr0 hx0 ⊢
  have HB0 := hid hb0
  have HR0 := hid hr0
  have HX0 := hid hx0
  have m2 : W0.cell? ⟨rb, 0, none⟩ = some (.slice A n c) := (hb0.cell (p := ⟨rb, 0, none⟩) (cell_lt m0)).trans m0
  clear hW0 hG hb0 hr0 hx0
  rcases HAd.out with ⟨rfl, hpq, hc0⟩ | ⟨g, rfl⟩
  · subst hc0
    have hn0 : n = 0 := by omega
    have hi0 : i = 0 := by omega
    subst hn0
    subst hi0
    go_upto_region 3 with (at_builtin; refine wpList_append_fs rfl _ _ rfl rfl _ G (.slice (some ⟨G + 1, 0, none⟩) 0 0) [] rfl HR0.out none 0 0 P HP.out rfl ((hold_left H.out.fr).below HB0.out) (fun f hf => row_one (H.out.sr f (List.mem_append_left _ hf))) (by first | (simp; done) | (simp; omega)) (by have := HB0.out.size; rw [HGe.out] at this; exact this) ?_; intro v1 w1 hr1 hg1; have HR1 := hid hr1; have HG1 := hid hg1; clear hr1 hg1)
    have hb1 : Below w.heap.size w w1 := HB0.out.grown HG1.out HB0.out.size fun k e => by cases e; rw [HGe.out]; exact Nat.le_succ _
    have hx1 : Blk w1 G 109 #[.string m.n, .int .i64 (m.no : Int), .slice As ns cs, .bool m.h] := (HG1.out.block G HX0.out.lt fun e => by cases e).trans HX0.out
    have x0 := hx1.cell 0
    have x1 := hx1.cell 1
    have x2 := hx1.cell 2
    have x3 := hx1.cell 3
    have hr1 := HR1.out
    rw [List.nil_append] at hr1
    obtain ⟨A1, q1, rfl⟩ := mrow_form hr1 HP.out
    have HB1 := hid hb1
    have HR1' := hid hr1
    have hsz1 : G ≤ w1.heap.size := Nat.le_of_lt hx1.lt
    have hgm : (m.sv = .slice As ns cs) := HES.out
    have HN1m := hid (hold_new w1 m 109)
    rw [hgm] at HN1m
    clear hb1 hr1 HR1 HG1 HB0 HR0 HX0 hx1 m2 hgm
    go_upto_region 4 with (at_builtin; refine wpList_append_fs rfl _ _ rfl rfl _ G (.slice A1 0 q1) P rfl (own_block0 HR1'.out fun g2 hg2 => (below_new w1 _).block g2 (World.ownsRow.lt HR1'.out g2 hg2).2) _ 1 1 [m] rfl rfl HN1m.out (fun f hf => by rw [List.mem_singleton] at hf; subst hf; exact row_one HM.out) (by rw [HP.out]; omega) (by first | (simp; done) | (simp; omega)) ?_; intro v2 w2 hr2 hg2; have HR2 := hid hr2; have HB2 : Hid (Below w.heap.size w w2) := ((HB1.out.trans ((below_new w1 _).mono HB1.out.size)).grown hg2 (by have := HB1.out.size; simp; omega) fun k e => by have := (World.ownsRow.lt HR1'.out k e).1; rw [HGe.out]; exact this); clear hr2 hg2)
    have hQ : Q.length = 0 - 0 := by
      have := HN1.out
      rw [List.length_append, HP.out] at this
      omega
    obtain ⟨A2, q2, rfl⟩ := mrow_form HR2.out (show (P ++ [m]).length = 0 + 1 by rw [List.length_append, HP.out]; rfl)
    have m3 : w2.cell? ⟨rb, 0, none⟩ = some (.slice none 0 0) := (HB2.out.cell (p := ⟨rb, 0, none⟩) (cell_lt m0)).trans m0
    have f3 : w2.frozen? ⟨rb, 0, none⟩ = false := (HB2.out.frozen (p := ⟨rb, 0, none⟩) (cell_lt m0)).trans (H.out.blk.free 0)
    have HQ := hid hQ
    have hsz2 : G ≤ w2.heap.size := by have := HB2.out.size; rw [HGe.out] at this; exact this
    have hHold : Hid (∀ A', HoldM w2 A' Q) := fun A' h0 => absurd (List.append_eq_nil_iff.1 hpq).2 h0
    have HOn : Hid (∀ f ∈ Q, f.sv.oneCell' = true) := fun f hf => row_one (H.out.sr f (List.mem_append_right _ hf))
    have HLen : Hid ((P ++ [m]).length = 0 + 1) := by unfold Hid; rw [List.length_append, HP.out]; rfl
    clear hQ x0 x1 x2 x3 hsz1 HR1' HN1m
    have fin : Hid (∀ (v3 : Value) (w3 : World), MRow w3 G v3 (P ++ [m] ++ Q) → w2.grownBy w3 (Value.slice A2 (0 + 1) q2).ownBlock → (∃ v, Rk (w3.setCell ⟨rb, 0, none⟩ v3) B rb v lv (P ++ m :: Q) ls z nx ∧ Chg (fun k => k = rb) w (w3.setCell ⟨rb, 0, none⟩ v3) ∧ (∀ g, v.ownBlock = some g → w.heap.size ≤ g)) ∧ w3.cell? ⟨rb, 0, none⟩ = some (.slice none 0 0) ∧ w3.frozen? ⟨rb, 0, none⟩ = false) := fun v3 w3 hr3 hg3 => by
      have hb3 : Below w.heap.size w w3 := HB2.out.grown hg3 HB2.out.size fun k e => by have := (World.ownsRow.lt HR2.out k e).1; rw [HGe.out]; exact this
      have hr4 : MRow w3 G v3 (P ++ m :: Q) := by rw [List.append_cons]; exact hr3
      refine ⟨⟨v3, H.out.files hb3 (own_low hr4 (by rw [← HGe.out]; exact Nat.le_trans H.out.lo (Nat.le_of_lt H.out.blk.lt))) (fun f hf => ?_) ?_, (Chg.of_below (fun q => q = rb) hb3).trans (Chg.of_set w3 rb 0 _ (S := fun q => q = rb) rfl) (fun q hq => .inl hq), fun k hk => by rw [HGe.out]; exact (World.ownsRow.lt hr4 k hk).1⟩, ?_, ?_⟩
      · rcases List.mem_append.1 hf with q | q
        · exact H.out.sr f (List.mem_append_left _ q)
        · rcases List.mem_cons.1 q with rfl | q
          · exact HM.out
          · exact H.out.sr f (List.mem_append_right _ q)
      · obtain ⟨p1, p2, p3⟩ := List.pairwise_append.1 H.out.ap
        refine List.pairwise_append.2 ⟨p1, List.pairwise_cons.2 ⟨fun b hb => (HA.out b (List.mem_append_right _ hb)).1, p2⟩, fun a ha b hb => ?_⟩
        rcases List.mem_cons.1 hb with rfl | hb
        · exact (HA.out a (List.mem_append_left _ ha)).2
        · exact p3 a ha b hb
      · exact (hb3.cell (p := ⟨rb, 0, none⟩) (cell_lt m0)).trans m0
      · exact (hb3.frozen (p := ⟨rb, 0, none⟩) (cell_lt m0)).trans (H.out.blk.free 0)
    obtain ⟨n3, hn3⟩ : ∃ n3, (P ++ [m] ++ Q).length = n3 := ⟨_, rfl⟩
    have HN3 := hid hn3
    clear hn3
    go_wp2_with (at_builtin; refine wpList_append_fs rfl _ _ rfl rfl _ G (.slice A2 (0 + 1) q2) (P ++ [m]) rfl HR2.out _ (0 - 0) (0 - 0) Q HQ.out rfl (hHold.out _) HOn.out (by rw [HLen.out]; omega) hsz2 ?_; intro v3 w3 hr3 hg3; obtain ⟨F1, m4, f4⟩ := fin.out v3 w3 hr3 hg3; obtain ⟨A3, q3, rfl⟩ := mrow_form hr3 HN3.out; have HF1 := hid F1; clear F1 hr3 hg3)
    all_goals
      go_end0
      exact ⟨rfl, HF1.out⟩
  · go_upto_region 3 with (at_builtin; refine wpList_append_fs rfl _ _ rfl rfl _ G (.slice (some ⟨G + 1, 0, none⟩) 0 0) [] rfl HR0.out (some ⟨g, 0, none⟩) i c P HP.out rfl ((hold_left H.out.fr).below HB0.out) (fun f hf => row_one (H.out.sr f (List.mem_append_left _ hf))) (by simp; omega) (by have := HB0.out.size; rw [HGe.out] at this; exact this) ?_; intro v1 w1 hr1 hg1; have HR1 := hid hr1; have HG1 := hid hg1; clear hr1 hg1)
    have hb1 : Below w.heap.size w w1 := HB0.out.grown HG1.out HB0.out.size fun k e => by cases e; rw [HGe.out]; exact Nat.le_succ _
    have hx1 : Blk w1 G 109 #[.string m.n, .int .i64 (m.no : Int), .slice As ns cs, .bool m.h] := (HG1.out.block G HX0.out.lt fun e => by cases e).trans HX0.out
    have x0 := hx1.cell 0
    have x1 := hx1.cell 1
    have x2 := hx1.cell 2
    have x3 := hx1.cell 3
    have hr1 := HR1.out
    rw [List.nil_append] at hr1
    obtain ⟨A1, q1, rfl⟩ := mrow_form hr1 HP.out
    have HB1 := hid hb1
    have HR1' := hid hr1
    have hsz1 : G ≤ w1.heap.size := Nat.le_of_lt hx1.lt
    have hgm : (m.sv = .slice As ns cs) := HES.out
    have HN1m := hid (hold_new w1 m 109)
    rw [hgm] at HN1m
    clear hb1 hr1 HR1 HG1 HB0 HR0 HX0 hx1 m2 hgm
    go_upto_region 4 with (at_builtin; refine wpList_append_fs rfl _ _ rfl rfl _ G (.slice A1 i q1) P rfl (own_block0 HR1'.out fun g2 hg2 => (below_new w1 _).block g2 (World.ownsRow.lt HR1'.out g2 hg2).2) _ 1 1 [m] rfl rfl HN1m.out (fun f hf => by rw [List.mem_singleton] at hf; subst hf; exact row_one HM.out) (by rw [HP.out]; omega) (by simp; omega) ?_; intro v2 w2 hr2 hg2; have HR2 := hid hr2; have HB2 : Hid (Below w.heap.size w w2) := ((HB1.out.trans ((below_new w1 _).mono HB1.out.size)).grown hg2 (by have := HB1.out.size; simp; omega) fun k e => by have := (World.ownsRow.lt HR1'.out k e).1; rw [HGe.out]; exact this); clear hr2 hg2)
    have hQ : Q.length = n - i := by
      have := HN1.out
      rw [List.length_append, HP.out] at this
      omega
    obtain ⟨A2, q2, rfl⟩ := mrow_form HR2.out (show (P ++ [m]).length = i + 1 by rw [List.length_append, HP.out]; rfl)
    have m3 : w2.cell? ⟨rb, 0, none⟩ = some (.slice (some ⟨g, 0, none⟩) n c) := (HB2.out.cell (p := ⟨rb, 0, none⟩) (cell_lt m0)).trans m0
    have f3 : w2.frozen? ⟨rb, 0, none⟩ = false := (HB2.out.frozen (p := ⟨rb, 0, none⟩) (cell_lt m0)).trans (H.out.blk.free 0)
    have HQ := hid hQ
    have hsz2 : G ≤ w2.heap.size := by have := HB2.out.size; rw [HGe.out] at this; exact this
    have hHold : Hid (∀ A', (c = i → A' = some ⟨g, 0, none⟩) → (c ≠ i → A' = some ⟨g, i * 4, none⟩) → HoldM w2 A' Q) := fun A' h1 h2 => by
      by_cases hci : c = i
      · intro h0
        have : Q = [] := List.eq_nil_of_length_eq_zero (by rw [HQ.out]; omega)
        exact absurd this h0
      · rw [h2 hci]
        exact (hold_right H.out.fr (by rw [HP.out])).below HB2.out
    have HOn : Hid (∀ f ∈ Q, f.sv.oneCell' = true) := fun f hf => row_one (H.out.sr f (List.mem_append_right _ hf))
    have HLen : Hid ((P ++ [m]).length = i + 1) := by unfold Hid; rw [List.length_append, HP.out]; rfl
    clear hQ x0 x1 x2 x3 hsz1 HR1' HN1m
    have fin : Hid (∀ (v3 : Value) (w3 : World), MRow w3 G v3 (P ++ [m] ++ Q) → w2.grownBy w3 (Value.slice A2 (i + 1) q2).ownBlock → (∃ v, Rk (w3.setCell ⟨rb, 0, none⟩ v3) B rb v lv (P ++ m :: Q) ls z nx ∧ Chg (fun k => k = rb) w (w3.setCell ⟨rb, 0, none⟩ v3) ∧ (∀ g, v.ownBlock = some g → w.heap.size ≤ g)) ∧ w3.cell? ⟨rb, 0, none⟩ = some (.slice (some ⟨g, 0, none⟩) n c) ∧ w3.frozen? ⟨rb, 0, none⟩ = false) := fun v3 w3 hr3 hg3 => by
      have hb3 : Below w.heap.size w w3 := HB2.out.grown hg3 HB2.out.size fun k e => by have := (World.ownsRow.lt HR2.out k e).1; rw [HGe.out]; exact this
      have hr4 : MRow w3 G v3 (P ++ m :: Q) := by rw [List.append_cons]; exact hr3
      refine ⟨⟨v3, H.out.files hb3 (own_low hr4 (by rw [← HGe.out]; exact Nat.le_trans H.out.lo (Nat.le_of_lt H.out.blk.lt))) (fun f hf => ?_) ?_, (Chg.of_below (fun q => q = rb) hb3).trans (Chg.of_set w3 rb 0 _ (S := fun q => q = rb) rfl) (fun q hq => .inl hq), fun k hk => by rw [HGe.out]; exact (World.ownsRow.lt hr4 k hk).1⟩, ?_, ?_⟩
      · rcases List.mem_append.1 hf with q | q
        · exact H.out.sr f (List.mem_append_left _ q)
        · rcases List.mem_cons.1 q with rfl | q
          · exact HM.out
          · exact H.out.sr f (List.mem_append_right _ q)
      · obtain ⟨p1, p2, p3⟩ := List.pairwise_append.1 H.out.ap
        refine List.pairwise_append.2 ⟨p1, List.pairwise_cons.2 ⟨fun b hb => (HA.out b (List.mem_append_right _ hb)).1, p2⟩, fun a ha b hb => ?_⟩
        rcases List.mem_cons.1 hb with rfl | hb
        · exact (HA.out a (List.mem_append_left _ ha)).2
        · exact p3 a ha b hb
      · exact (hb3.cell (p := ⟨rb, 0, none⟩) (cell_lt m0)).trans m0
      · exact (hb3.frozen (p := ⟨rb, 0, none⟩) (cell_lt m0)).trans (H.out.blk.free 0)
    obtain ⟨n3, hn3⟩ : ∃ n3, (P ++ [m] ++ Q).length = n3 := ⟨_, rfl⟩
    have HN3 := hid hn3
    clear hn3
    go_wp2_with (at_builtin; refine wpList_append_fs rfl _ _ rfl rfl _ G (.slice A2 (i + 1) q2) (P ++ [m]) rfl HR2.out _ (n - i) (c - i) Q HQ.out rfl (hHold.out _ (by intro e; simp [e]) (by intro e; simp [e])) HOn.out (by rw [HLen.out]; omega) hsz2 ?_; intro v3 w3 hr3 hg3; obtain ⟨F1, m4, f4⟩ := fin.out v3 w3 hr3 hg3; obtain ⟨A3, q3, rfl⟩ := mrow_form hr3 HN3.out; have HF1 := hid F1; clear F1 hr3 hg3)
    all_goals
      go_end0
      exact ⟨rfl, HF1.out⟩
end Go.Proofs.YtofkfafdodhmdaaGreatDoor

/- The document's cut, Remove. Conditions: the disk stands. -/
namespace Go.Proofs.YtofkfafdodhmdaaGreatDoor
open Go.RowKit

theorem mid_app {α : Type} (P Q : List α) (m : α) : P ++ m :: Q = (P ++ [m]) ++ Q := by rw [List.append_assoc]; rfl
set_option maxRecDepth 100000 in
set_option maxHeartbeats 4000000 in
theorem rcut_ok {w : World} {B rb nx : Nat} {fv lv : Value} {P Q : List Rm} {m : Rm} {ls : List Lm} {z : Int} (h : Rk w B rb fv lv (P ++ m :: Q) ls z nx) (hl : (P ++ m :: Q).length ≤ 100000) (i : Nat) (hi : P.length = i) :
    Calls Tryz.prog 66 #[.pointer (some ⟨rb, 0, none⟩), .int .i64 (i : Int)] w fun e w' => e = .returned (.tuple #[]) ∧ ∃ v, Rk w' B rb v lv (P ++ Q) ls z nx ∧ Chg (fun k => k = rb) w w' ∧ (∀ g, v.ownBlock = some g → w.heap.size ≤ g) := by
  obtain ⟨n, hn1⟩ : ∃ n, (P ++ m :: Q).length = n := ⟨_, rfl⟩
  obtain ⟨A, c, rfl⟩ := mrow_form h.fr hn1
  have m0 : w.cell? ⟨rb, 0, none⟩ = some (.slice A n c) := h.blk.cell 0
  have H := hid h
  have HP := hid hi
  have hQ : Q.length + (i + 1) = n := by rw [← hi, ← hn1, List.length_append, List.length_cons]; omega
  rw [hn1] at hl
  obtain ⟨hcap, hc63⟩ := mrow_cap h.fr hn1
  have hin : i + 1 ≤ n := by omega
  have hic : i ≤ c := by omega
  obtain ⟨g, rfl⟩ : ∃ g, A = some ⟨g, 0, none⟩ := by
    rcases mrow_some h.fr with ⟨_, e, _⟩ | h
    · exact absurd e (by simp)
    · exact h
  have HQ : Hid (Q.length = n - (i + 1)) := by unfold Hid; omega
  have w9 : IntKind.i64.wrap ((i : Int) + 1) = ((i + 1 : Nat) : Int) := by rw [IntKind.wrap_i64]; omega
  clear h hn1 hi hQ
  go_enter Tryz.func66, Tryz.ntmps66
  go_upto_region 1 with (fail)
  have HB0 := hid (below_new w (.cells #[] 109))
  have HR0 : Hid (MRow (w.alloc (.cells #[] 109)) w.heap.size (.slice (some ⟨w.heap.size, 0, none⟩) 0 0) []) := own_made w 109 4 w.heap.size (Nat.le_refl _) rfl
  obtain ⟨W0, hW0⟩ : ∃ W0, (w.alloc (.cells #[] 109)) = W0 := ⟨_, rfl⟩
  obtain ⟨G, hG⟩ : ∃ G, w.heap.size = G := ⟨_, rfl⟩
  have HGe := hid hG
  rw [hW0] at HB0 HR0 ⊢
  rw [hG] at HR0 ⊢
  have m2 : W0.cell? ⟨rb, 0, none⟩ = some (.slice (some ⟨g, 0, none⟩) n c) := (HB0.out.cell (p := ⟨rb, 0, none⟩) (cell_lt m0)).trans m0
  clear hW0 hG
  go_upto_region 2 with (at_builtin; refine wpList_append_fs rfl _ _ rfl rfl _ G (.slice (some ⟨G, 0, none⟩) 0 0) [] rfl HR0.out (some ⟨g, 0, none⟩) i c P HP.out rfl ((hold_left H.out.fr).below HB0.out) (fun f hf => row_one (H.out.sr f (List.mem_append_left _ hf))) (by simp; omega) (by have := HB0.out.size; rw [HGe.out] at this; exact this) ?_; intro v1 w1 hr1 hg1; have HR1 := hid hr1; have HG1 := hid hg1; clear hr1 hg1)
  have hb1 : Below w.heap.size w w1 := HB0.out.grown HG1.out HB0.out.size fun k e => by cases e; rw [HGe.out]; exact Nat.le_refl _
  have hr1 := HR1.out
  rw [List.nil_append] at hr1
  obtain ⟨A1, q1, rfl⟩ := mrow_form hr1 HP.out
  have HB1 := hid hb1
  have HR1' := hid hr1
  have m3 : w1.cell? ⟨rb, 0, none⟩ = some (.slice (some ⟨g, 0, none⟩) n c) := (HB1.out.cell (p := ⟨rb, 0, none⟩) (cell_lt m0)).trans m0
  have f3 : w1.frozen? ⟨rb, 0, none⟩ = false := (HB1.out.frozen (p := ⟨rb, 0, none⟩) (cell_lt m0)).trans (H.out.blk.free 0)
  have hsz1 : G ≤ w1.heap.size := by have := HB1.out.size; rw [HGe.out] at this; exact this
  clear hb1 hr1 HR1 HG1 HB0 HR0 m2
  have hHold : Hid (∀ A', (c = i + 1 → A' = some ⟨g, 0, none⟩) → (c ≠ i + 1 → A' = some ⟨g, (i + 1) * 4, none⟩) → HoldM w1 A' Q) := fun A' h1 h2 => by
    by_cases hci : c = i + 1
    · intro h0
      have : Q = [] := List.eq_nil_of_length_eq_zero (by rw [HQ.out]; omega)
      exact absurd this h0
    · rw [h2 hci]
      have hf := H.out.fr
      rw [mid_app] at hf
      exact (hold_right hf (by rw [List.length_append, HP.out]; rfl)).below HB1.out
  have HOn : Hid (∀ f ∈ Q, f.sv.oneCell' = true) := fun f hf => row_one (H.out.sr f (List.mem_append_right _ (List.mem_cons_of_mem _ hf)))
  have fin : Hid (∀ (v3 : Value) (w3 : World), MRow w3 G v3 (P ++ Q) → w1.grownBy w3 (Value.slice A1 i q1).ownBlock → (∃ v, Rk (w3.setCell ⟨rb, 0, none⟩ v3) B rb v lv (P ++ Q) ls z nx ∧ Chg (fun k => k = rb) w (w3.setCell ⟨rb, 0, none⟩ v3) ∧ (∀ g, v.ownBlock = some g → w.heap.size ≤ g)) ∧ w3.cell? ⟨rb, 0, none⟩ = some (.slice (some ⟨g, 0, none⟩) n c) ∧ w3.frozen? ⟨rb, 0, none⟩ = false) := fun v3 w3 hr3 hg3 => by
    have hb3 : Below w.heap.size w w3 := HB1.out.grown hg3 HB1.out.size fun k e => by have := (World.ownsRow.lt HR1'.out k e).1; rw [HGe.out]; exact this
    refine ⟨⟨v3, H.out.files hb3 (own_low hr3 (by rw [← HGe.out]; exact Nat.le_trans H.out.lo (Nat.le_of_lt H.out.blk.lt))) (fun f hf => ?_) ?_, (Chg.of_below (fun q => q = rb) hb3).trans (Chg.of_set w3 rb 0 _ (S := fun q => q = rb) rfl) (fun q hq => .inl hq), fun k hk => by rw [HGe.out]; exact (World.ownsRow.lt hr3 k hk).1⟩, ?_, ?_⟩
    · rcases List.mem_append.1 hf with q | q
      · exact H.out.sr f (List.mem_append_left _ q)
      · exact H.out.sr f (List.mem_append_right _ (List.mem_cons_of_mem _ q))
    · obtain ⟨p1, p2, p3⟩ := List.pairwise_append.1 H.out.ap
      exact List.pairwise_append.2 ⟨p1, (List.pairwise_cons.1 p2).2, fun a ha b hb => p3 a ha b (List.mem_cons_of_mem _ hb)⟩
    · exact (hb3.cell (p := ⟨rb, 0, none⟩) (cell_lt m0)).trans m0
    · exact (hb3.frozen (p := ⟨rb, 0, none⟩) (cell_lt m0)).trans (H.out.blk.free 0)
  obtain ⟨n3, hn3⟩ : ∃ n3, (P ++ Q).length = n3 := ⟨_, rfl⟩
  have HN3 := hid hn3
  clear hn3
  go_wp2_with (at_builtin; refine wpList_append_fs rfl _ _ rfl rfl _ G (.slice A1 i q1) P rfl HR1'.out _ (n - (i + 1)) (c - (i + 1)) Q HQ.out rfl (hHold.out _ (by intro e; simp [e]) (by intro e; simp [e])) HOn.out (by rw [HP.out]; omega) hsz1 ?_; intro v3 w3 hr3 hg3; obtain ⟨F1, m4, f4⟩ := fin.out v3 w3 hr3 hg3; obtain ⟨A3, q3, rfl⟩ := mrow_form hr3 HN3.out; have HF1 := hid F1; clear F1 hr3 hg3)
  all_goals
    go_end0
    exact ⟨rfl, HF1.out⟩
end Go.Proofs.YtofkfafdodhmdaaGreatDoor
