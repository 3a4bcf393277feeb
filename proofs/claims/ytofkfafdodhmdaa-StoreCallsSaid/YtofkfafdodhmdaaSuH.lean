/- The document's take. Conditions: the disk stands. -/
import Derived.Test.YtofkfafdodhmdaaSuG
namespace Go.Proofs.Ytofkfafdodhmdaa
open Go.RowKit

/-- Other bytes that don't last. -/
theorem Rk.bytes {w w1 : World} {B rb nx : Nat} {fv lv v : Value} {ms : List Rm} {ls ls' : List Lm} {z : Int} (h : Rk w B rb fv lv ms ls z nx) (hk : ∀ k, Rt rb fv (.slice none 0 0) ms k → w1.heap[k]? = w.heap[k]?) (hr : LRow w1 B v ls') :
    Rk (w1.setCell ⟨rb, 1, none⟩ v) B rb fv v ms ls' z nx := by
  have b1 : Blk w1 rb 49 #[fv, lv, .int .i64 z, .int .i64 (nx : Int)] := (hk rb (.inl rfl)).trans h.blk
  have ks : ∀ k, k ≠ rb → (w1.setCell ⟨rb, 1, none⟩ v).heap[k]? = w1.heap[k]? := fun k q => Below.heap_setCell _ _ _ _ q
  refine ⟨h.lo, b1.set 1 v, own_block0 h.fr fun g q => ?_, own_block0 hr fun g q => ?_, fun m hm => own_block0 (h.sr m hm) fun g q => ?_, h.ap⟩
  · obtain ⟨cur, hc⟩ := own_blk h.fr q
    exact (ks g (blk_ne0 hc h.blk (by decide))).trans (hk g (.inr (.inl q)))
  · obtain ⟨cur, hc⟩ := own_blk hr q
    exact ks g (blk_ne0 hc b1 (by decide))
  · obtain ⟨cur, hc⟩ := own_blk (h.sr m hm) q
    exact (ks g (blk_ne0 hc h.blk (by decide))).trans (hk g (.inr (.inr (.inr ⟨m, hm, q⟩))))
def ofNo (no : Nat) (x : Lm) : Bool := decide (x.1 = no)
def bytesM (ls : List Lm) (no : Nat) : List UInt8 := (ls.filter (ofNo no)).map Prod.snd
def outM (ls : List Lm) (no : Nat) : List Lm := ls.filter fun x => !ofNo no x
theorem filter_take {α : Type} {l : List α} {k : Nat} (h : k < l.length) (p : α → Bool) : (l.take (k + 1)).filter p = (l.take k).filter p ++ if p l[k] = true then [l[k]] else [] := by
  rw [List.take_succ_eq_append_getElem h, List.filter_append, List.filter_cons, List.filter_nil]
theorem holds_one (w : World) (x : UInt8) : HoldsA (w.alloc (.cells #[.int .u8 (x.toNat : Int)] 5)) (some ⟨w.heap.size, 0, none⟩) [x] := fun _ => ⟨w.heap.size, 0, rfl, fun j hj => by
  obtain rfl : j = 0 := by
    simp at hj
    exact hj
  exact World.cell?_alloc_at _ _ _ _ rfl⟩
theorem grown_own {w w1 w2 : World} {N sz n : Nat} {T : TypeId} {v : Value} {xs : List Value} (hb : Below w.heap.size w w1) (h : w1.ownsRow w.heap.size T sz v n xs) (hg : w1.grownBy w2 v.ownBlock) (_ : N = 0) : Below w.heap.size w w2 :=
  hb.grown hg hb.size fun k e => (World.ownsRow.lt h k e).1
/-- What is taken so far. -/
structure TkR (w wr : World) (vo vr : Value) (ls : List Lm) (no : Nat) : Prop where
  b : Below w.heap.size w wr
  out : Row wr w.heap.size vo (bytesM ls no)
  rest : LRow wr w.heap.size vr (outM ls no)

set_option maxRecDepth 100000 in
set_option maxHeartbeats 4000000 in
theorem rtake_ok {w : World} {B rb nx : Nat} {fv lv : Value} {ms : List Rm} {ls : List Lm} {z : Int} (h : Rk w B rb fv lv ms ls z nx) (hl : ls.length ≤ 1000000) (no : Nat) :
    Calls Try.prog 36 #[.pointer (some ⟨rb, 0, none⟩), .int .i64 (no : Int)] w fun e w' => ∃ v v2, e = .returned v ∧ Row w' w.heap.size v (bytesM ls no) ∧ Rk w' B rb fv v2 ms (outM ls no) z nx ∧ Chg (fun k => k = rb) w w' ∧ (∀ g, v2.ownBlock = some g → w.heap.size ≤ g) := by
  obtain ⟨n, hn1⟩ : ∃ n, ls.length = n := ⟨_, rfl⟩
  obtain ⟨A, c, rfl⟩ := lrow_form h.lr hn1
  have m0 : w.cell? ⟨rb, 1, none⟩ = some (.slice A n c) := h.blk.cell 1
  have H := hid h
  have HN1 := hid hn1
  rw [hn1] at hl
  have HB0 : B ≤ w.heap.size := Nat.le_trans h.lo (Nat.le_of_lt h.blk.lt)
  have HBB := hid HB0
  have HST : Hid (TkR w ((w.alloc (.cells #[] 5)).alloc (.cells #[] 66)) (.slice (some ⟨w.heap.size, 0, none⟩) 0 0) (.slice (some ⟨w.heap.size + 1, 0, none⟩) 0 0) [] no) :=
    ⟨(below_new w _).trans ((below_new _ _).mono (by simp)), own_block0 (own_made w 5 1 _ (Nat.le_refl _) rfl) fun g q => (below_new _ _).block g (by cases q; simp), by
      have := own_made (w.alloc (.cells #[] 5)) 66 2 w.heap.size (by simp) rfl
      rw [World.size_alloc] at this
      exact this⟩
  have HFz : Hid (w.frozen? ⟨rb, 1, none⟩ = false) := h.blk.free 1
  clear h hn1 HB0
  go_enter Try.func36, Try.ntmps36
  go_wp2
  go_loopw [5, 6, 7] (fun vo vr vi wr => ∃ (k n1 c1 n2 c2 : Nat) (A1 A2 : Option Addr), vo = .slice A1 n1 c1 ∧ vr = .slice A2 n2 c2 ∧ vi = .int .i64 (k : Int) ∧ k ≤ n ∧ Hid (TkR w wr (.slice A1 n1 c1) (.slice A2 n2 c2) (ls.take k) no)) (fun _ _ vi _ => n - (intOf vi).toNat)
  case atStart => exact ⟨0, 0, 0, 0, 0, _, _, rfl, rfl, rfl, Nat.zero_le _, HST.out⟩
  case round =>
    obtain ⟨k, n1, c1, n2, c2, A1, A2, rfl, rfl, rfl, hk, HI⟩ := hrel
    have m3 : wr.cell? ⟨rb, 1, none⟩ = some (.slice A n c) := (HI.out.b.cell (p := ⟨rb, 1, none⟩) (cell_lt m0)).trans m0
    by_cases hkn : k < n
    · have hkl : k < ls.length := by rw [HN1.out]; exact hkn
      obtain ⟨g, rfl, q0, q1⟩ := lrow_at H.out.lr hkl
      have y0 : wr.cell? ⟨g, k * 2, none⟩ = some (.int .i64 (ls[k].1 : Int)) := (HI.out.b.cell (p := ⟨g, k * 2, none⟩) (cell_lt q0)).trans q0
      have y1 : wr.cell? ⟨g, k * 2 + 1, none⟩ = some (.int .u8 (ls[k].2.toNat : Int)) := (HI.out.b.cell (p := ⟨g, k * 2 + 1, none⟩) (cell_lt q1)).trans q1
      have hf1 := filter_take hkl (ofNo no)
      have hf2 := filter_take hkl (fun x => !ofNo no x)
      have hlen1 : (bytesM (ls.take k) no).length ≤ k := by
        unfold bytesM
        rw [List.length_map]
        refine Nat.le_trans (List.length_filter_le _ _) ?_
        rw [List.length_take]
        omega
      have hlen2 : (outM (ls.take k) no).length ≤ k := by
        unfold outM
        refine Nat.le_trans (List.length_filter_le _ _) ?_
        rw [List.length_take]
        omega
      obtain ⟨y, hy⟩ : ∃ y, ls[k] = y := ⟨_, rfl⟩
      rw [hy] at y0 y1 hf1 hf2
      obtain ⟨yn, yb⟩ := y
      have HL1 := hid hlen1
      have HL2 := hid hlen2
      clear hy q0 q1 hlen1 hlen2 hkl m0
      by_cases hq : yn = no
      · have HO : Hid (bytesM (ls.take (k + 1)) no = bytesM (ls.take k) no ++ [yb] ∧ outM (ls.take (k + 1)) no = outM (ls.take k) no) := by
          unfold Hid bytesM outM
          rw [hf1, hf2, if_pos (show ofNo no (yn, yb) = true from decide_eq_true hq), if_neg (by rw [show ofNo no (yn, yb) = true from decide_eq_true hq]; decide), List.map_append, List.append_nil]
          exact ⟨rfl, rfl⟩
        clear hf1 hf2
        subst hq
        go_wp2_with (at_builtin; refine wpList_append_at rfl _ _ rfl _ w.heap.size (.slice A1 n1 c1) _ rfl (own_block0 HI.out.out fun g2 hg2 => (below_new wr _).block g2 (World.ownsRow.lt HI.out.out g2 hg2).2) _ _ [yb] rfl (by simp) (holds_one _ _) (by have := HL1.out; simp; omega) (by have := HI.out.b.size; simp; omega) ?_; intro v2 w2 hr2 hg2 _)
        have hb1 := HI.out.b.trans ((below_new wr (.cells #[.int .u8 (yb.toNat : Int)] 5)).mono HI.out.b.size)
        have hro := own_block0 (w' := wr.alloc (.cells #[.int .u8 (yb.toNat : Int)] 5)) HI.out.out fun g2 hg2 => (below_new wr _).block g2 (World.ownsRow.lt HI.out.out g2 hg2).2
        have hrr := own_block0 (w' := wr.alloc (.cells #[.int .u8 (yb.toNat : Int)] 5)) HI.out.rest fun g2 hg2 => (below_new wr _).block g2 (World.ownsRow.lt HI.out.rest g2 hg2).2
        have hst : TkR w w2 v2 (.slice A2 n2 c2) (ls.take (k + 1)) yn := ⟨grown_own hb1 hro hg2 rfl, by rw [HO.out.1]; exact hr2, by rw [HO.out.2]; exact own_beside hrr hro (by decide) hg2⟩
        obtain ⟨A6, c6, e6⟩ := row_form hr2 rfl
        obtain ⟨n6, hn6⟩ : ∃ n6, (bytesM (ls.take k) yn ++ [yb]).length = n6 := ⟨_, rfl⟩
        rw [hn6] at e6
        subst e6
        have HSt := hid hst
        clear hb1 hro hrr hst hr2 hg2 hn6
        go_roundw
        case rel => exact ⟨k + 1, n6, c6, n2, c2, A6, A2, rfl, rfl, by go_num, by omega, HSt.out⟩
        case measure => simp [intOf]; omega
      · have HO : Hid (bytesM (ls.take (k + 1)) no = bytesM (ls.take k) no ∧ outM (ls.take (k + 1)) no = outM (ls.take k) no ++ [(yn, yb)]) := by
          unfold Hid bytesM outM
          rw [hf1, hf2, if_neg (by rw [show ofNo no (yn, yb) = false from decide_eq_false hq]; decide), if_pos (by rw [show ofNo no (yn, yb) = false from decide_eq_false hq]; rfl), List.append_nil]
          exact ⟨rfl, rfl⟩
        have hq2 : ¬ (yn : Int) = (no : Int) := by omega
        clear hf1 hf2
        go_wp2_with (at_builtin; refine wpList_append_lz rfl _ _ rfl _ w.heap.size (.slice A2 n2 c2) _ rfl (own_block0 HI.out.rest fun g2 hg2 => (below_new wr _).block g2 (World.ownsRow.lt HI.out.rest g2 hg2).2) _ _ (yn, yb) rfl (cell_two wr (.int .i64 (yn : Int)) (.int .u8 (yb.toNat : Int)) _) (by have := HL2.out; omega) (by have := HI.out.b.size; simp; omega) ?_; intro v2 w2 hr2 hg2)
        have hb1 := HI.out.b.trans ((below_new wr (.cells #[.int .i64 (yn : Int), .int .u8 (yb.toNat : Int)] 66)).mono HI.out.b.size)
        have hro := own_block0 (w' := wr.alloc (.cells #[.int .i64 (yn : Int), .int .u8 (yb.toNat : Int)] 66)) HI.out.out fun g2 hg2 => (below_new wr _).block g2 (World.ownsRow.lt HI.out.out g2 hg2).2
        have hrr := own_block0 (w' := wr.alloc (.cells #[.int .i64 (yn : Int), .int .u8 (yb.toNat : Int)] 66)) HI.out.rest fun g2 hg2 => (below_new wr _).block g2 (World.ownsRow.lt HI.out.rest g2 hg2).2
        have hst : TkR w w2 (.slice A1 n1 c1) v2 (ls.take (k + 1)) no := ⟨grown_own hb1 hrr hg2 rfl, by rw [HO.out.1]; exact own_beside hro hrr (by decide) hg2, by rw [HO.out.2]; exact hr2⟩
        obtain ⟨A6, c6, e6⟩ := lrow_form hr2 rfl
        obtain ⟨n6, hn6⟩ : ∃ n6, (outM (ls.take k) no ++ [(yn, yb)]).length = n6 := ⟨_, rfl⟩
        rw [hn6] at e6
        subst e6
        have HSt := hid hst
        clear hb1 hro hrr hst hr2 hg2 hn6
        go_roundw
        case rel => exact ⟨k + 1, n1, c1, n6, c6, A1, A6, rfl, rfl, by go_num, by omega, HSt.out⟩
        case measure => simp [intOf]; omega
    · obtain rfl : k = n := by omega
      have hi := HI.out
      rw [List.take_of_length_le (by rw [HN1.out]; exact Nat.le_refl _)] at hi
      have HIf := hid hi
      have q9 : wr.frozen? ⟨rb, 1, none⟩ = false := (HI.out.b.frozen (p := ⟨rb, 1, none⟩) (cell_lt m0)).trans HFz.out
      clear hi
      go_wp2
      go_ret
      refine ⟨_, _, rfl, ?_, H.out.bytes (fun q hq => HIf.out.b.block q (H.out.rt (by rcases hq with q | q | q | q; exact .inl q; exact .inr (.inl q); cases q; exact .inr (.inr (.inr q)))).2) (own_low HIf.out.rest HBB.out), (Chg.of_below (fun q => q = rb) HIf.out.b).trans (Chg.of_set wr rb 1 _ (S := fun q => q = rb) rfl) (fun q hq => .inl hq), fun g hg => (World.ownsRow.lt HIf.out.rest g hg).1⟩
      refine own_block0 HIf.out.out fun g hg => Below.heap_setCell _ _ _ _ ?_
      have h1 := (World.ownsRow.lt HIf.out.out g hg).1
      have h2 := H.out.blk.lt
      intro e
      have e2 : g = rb := e
      omega
end Go.Proofs.Ytofkfafdodhmdaa
