/- merge.Split: the cells below a row, and the others. Conditions: the argument stands, a million cells at most. -/
import Derived.Test.YtgfkobfkncpmoaaDoorMgU
namespace Go.Proofs.YtgfkobfkncpmoaaDoor
open Go.RowKit

theorem less_cmp : ∀ (x y : List UInt8), Op.bytesLess x y = decide (Lib.compareBytes x y < 0)
  | [], [] => rfl
  | [], _ :: _ => rfl
  | _ :: _, [] => rfl
  | a :: x, b :: y => by
    rw [Op.bytesLess, Lib.compareBytes, less_cmp x y]
    by_cases h1 : a < b
    · rw [if_pos h1, decide_eq_true h1]
      rfl
    · rw [if_neg h1, decide_eq_false h1]
      by_cases h2 : b < a
      · rw [if_pos h2]
        have : (a == b) = false := beq_eq_false_iff_ne.2 fun e => by subst e; exact h1 h2
        rw [this]
        rfl
      · have e : a = b := by
          have h3 := UInt8.not_lt.1 h1
          have h4 := UInt8.not_lt.1 h2
          exact UInt8.le_antisymm h4 h3
        subst e
        rw [if_neg h2]
        simp
/-- Is a cell below a row? -/
def lowB (at9 : ByteArray) (c : CT) : Bool := decide (Lib.compareBytes c.r.data.toList at9.data.toList < 0)
theorem low_is (at9 : ByteArray) (c : CT) : Op.bytesLess c.r.toList at9.toList = lowB at9 c := by
  rw [less_cmp, Lib.toList_data, Lib.toList_data]
  rfl
/-- Two rows that grow side by side. -/
structure SpM (w W : World) (va vb : Value) (a b : List CT) : Prop where
  ra : CRow W w.heap.size va a
  rb : CRow W w.heap.size vb b
  ne : ∀ k, va.ownBlock = some k → vb.ownBlock ≠ some k
  be : Below w.heap.size w W
theorem SpM.below {w W W2 : World} {va vb : Value} {a b : List CT} (h : SpM w W va vb a b) (hb : Below W.heap.size W W2) : SpM w W2 va vb a b := ⟨h.ra.below hb, h.rb.below hb, h.ne, h.be.trans (hb.mono h.be.size)⟩
theorem SpM.moreA {w W W1 W2 : World} {va vb v2 : Value} {a b : List CT} {d : CT} (h : SpM w W va vb a b) (hb : Below W.heap.size W W1) (hr : CRow W2 w.heap.size v2 (a ++ [d])) (hg : W1.grownBy W2 va.ownBlock) (ho : v2.ownBlock = va.ownBlock ∨ v2.ownBlock = some W1.heap.size) : SpM w W2 v2 vb (a ++ [d]) b := by
  have h1 := h.below hb
  refine ⟨hr, x_own0 h1.rb fun k hk => hg.block k (World.ownsRow.lt h1.rb k hk).2 fun e => h.ne k e.symm hk, fun k hk e => ?_, h1.be.grown hg h1.be.size fun k hk => (World.ownsRow.lt h1.ra k hk).1⟩
  rcases ho with q | q
  · exact h.ne k (q ▸ hk) e
  · rw [q] at hk
    injection hk with hk
    have := (World.ownsRow.lt h1.rb k e).2
    omega
theorem SpM.moreB {w W W1 W2 : World} {va vb v2 : Value} {a b : List CT} {d : CT} (h : SpM w W va vb a b) (hb : Below W.heap.size W W1) (hr : CRow W2 w.heap.size v2 (b ++ [d])) (hg : W1.grownBy W2 vb.ownBlock) (ho : v2.ownBlock = vb.ownBlock ∨ v2.ownBlock = some W1.heap.size) : SpM w W2 va v2 a (b ++ [d]) := by
  have h1 := h.below hb
  refine ⟨x_own0 h1.ra fun k hk => hg.block k (World.ownsRow.lt h1.ra k hk).2 fun e => h.ne k hk e.symm, hr, fun k hk e => ?_, h1.be.grown hg h1.be.size fun k hk => (World.ownsRow.lt h1.rb k hk).1⟩
  rcases ho with q | q
  · exact h.ne k hk (q ▸ e)
  · rw [q] at e
    injection e with e
    have := (World.ownsRow.lt h1.ra k hk).2
    omega
theorem filt_snoc {l : List CT} {i : Nat} {c : CT} (hc : l[i]? = some c) (p : CT → Bool) : (l.take (i + 1)).filter p = if p c = true then (l.take i).filter p ++ [c] else (l.take i).filter p := by
  have e1 : l.take (i + 1) = l.take i ++ [c] := by rw [List.take_add_one, hc]; rfl
  rw [e1, List.filter_append]
  by_cases q : p c = true
  · rw [if_pos q, List.filter_cons, if_pos q]
    rfl
  · rw [if_neg q, List.filter_cons, if_neg q]
    simp

def SpE (w : World) (at9 : ByteArray) (l : List CT) (e : Ending) (w' : World) : Prop := ∃ va vb, e = .returned (.tuple #[va, vb]) ∧ SpM w w' va vb (l.filter fun c => lowB at9 c) (l.filter fun c => !lowB at9 c)
set_option maxRecDepth 100000 in
set_option maxHeartbeats 8000000 in
theorem split_any (v : Value) (l : List CT) (at9 : ByteArray) (w : World) (h : ClA w v l) (hl : l.length ≤ 1000000) :
    Calls Tryd.prog 59 #[v, .string at9] w fun e w' => SpE w at9 l e w' := by
  have mixed : Tryd.prog.follows .mixedOrders = true := by kernel_rfl
  obtain ⟨A, cap, rfl, hc1, hc2, hh⟩ := h
  have HH := hid hh
  obtain ⟨n, hn⟩ : ∃ n, l.length = n := ⟨_, rfl⟩
  have HN := hid hn
  rw [hn] at hc1 hl ⊢
  have H0 : Hid (SpM w w (.slice none 0 0) (.slice none 0 0) ((l.take 0).filter fun c => lowB at9 c) ((l.take 0).filter fun c => !lowB at9 c)) := ⟨⟨rfl, .inl ⟨rfl, rfl⟩⟩, ⟨rfl, .inl ⟨rfl, rfl⟩⟩, fun k hk => (by cases hk), Below.refl _ _⟩
  clear hh hn
  go_enter Tryd.func59, Tryd.ntmps59
  go_wp2
  go_loopw [6, 7, 12] (fun va vb vi wr => ∃ (i : Nat), i ≤ n ∧ vi = .int .i64 i ∧ Hid (SpM w wr va vb ((l.take i).filter fun c => lowB at9 c) ((l.take i).filter fun c => !lowB at9 c))) (fun _ _ vi _ => n - (intOf vi).toNat)
  case atStart => exact ⟨0, Nat.zero_le _, rfl, H0.out⟩
  case round =>
    clear H0
    obtain ⟨i, hi, rfl, HI⟩ := hrel
    obtain ⟨Aa, ca, rfl, -⟩ := HI.out.ra.len
    obtain ⟨Ab, cb, rfl, -⟩ := HI.out.rb.len
    by_cases hlt : i < n
    · have hltz : (i : Int) < (n : Int) := by omega
      have hil : i < l.length := by rw [HN.out]; exact hlt
      obtain ⟨b, off, rfl, hhc⟩ := HH.out (by omega)
      have hbw : b < w.heap.size := hhc.lt (by omega)
      obtain ⟨c, hc⟩ : ∃ c, l[i]? = some c := ⟨_, List.getElem?_eq_getElem hil⟩
      have HC := hid hc
      obtain ⟨x0, x1, x2, x3, x4, x5, x6, x7⟩ := ct_words (hhc.below HI.out.be hbw) i hc
      have hna : ((l.take i).filter fun c => lowB at9 c).length ≤ i := Nat.le_trans (List.length_filter_le _ _) (by rw [List.length_take]; omega)
      have hnb : ((l.take i).filter fun c => !lowB at9 c).length ≤ i := Nat.le_trans (List.length_filter_le _ _) (by rw [List.length_take]; omega)
      obtain ⟨a, ha⟩ : ∃ a, (l.take i).filter (fun c => lowB at9 c) = a := ⟨_, rfl⟩
      obtain ⟨d, hd⟩ : ∃ d, (l.take i).filter (fun c => !lowB at9 c) = d := ⟨_, rfl⟩
      have HA := hid ha
      have HD := hid hd
      rw [ha] at HI hna ⊢
      rw [hd] at HI hnb ⊢
      obtain ⟨na, hna2⟩ : ∃ na, a.length = na := ⟨_, rfl⟩
      obtain ⟨nb, hnb2⟩ : ∃ nb, d.length = nb := ⟨_, rfl⟩
      have HNa := hid hna2
      have HNb := hid hnb2
      rw [hna2] at HI hna ⊢
      rw [hnb2] at HI hnb ⊢
      have HE0 := hid (And.intro (Blk.new wr 28 c.e.toArray) (HI.out.below (below_new wr (.cells c.e.toArray 28))))
      clear ha hd hna2 hnb2 hhc hc hil
      go_upto_region 5 with (fail)
      clear x0 x1 x2 x3 x4 x5 x6 x7
      obtain ⟨rb, hrb⟩ : ∃ rb, wr.heap.size = rb := ⟨_, rfl⟩
      refine wp_lt9 (fun W => Hid (Blk W rb 28 c.e.toArray ∧ SpM w W (.slice Aa na ca) (.slice Ab nb cb) a d)) ?_ ?_
      · rw [← hrb]
        exact HE0.out
      rw [hrb]
      clear hrb HE0 HI
      rintro W1 HI
      have x0 : W1.cell? ⟨rb, 0, none⟩ = some (.string c.r) := HI.out.1.cell 0; have x1 : W1.cell? ⟨rb, 1, none⟩ = some (.string c.f) := HI.out.1.cell 1; have x2 : W1.cell? ⟨rb, 2, none⟩ = some (.string c.q) := HI.out.1.cell 2; have x3 : W1.cell? ⟨rb, 3, none⟩ = some (.int .i64 c.t) := HI.out.1.cell 3; have x4 : W1.cell? ⟨rb, 4, none⟩ = some (.int .i64 c.k) := HI.out.1.cell 4; have x5 : W1.cell? ⟨rb, 5, none⟩ = some (.int .i64 c.vk) := HI.out.1.cell 5; have x6 : W1.cell? ⟨rb, 6, none⟩ = some (.int .i64 c.vn) := HI.out.1.cell 6; have x7 : W1.cell? ⟨rb, 7, none⟩ = some (.string c.s) := HI.out.1.cell 7
      have HB2 : Hid (Below W1.heap.size W1 (W1.alloc (.cells #[.string c.r, .string c.f, .string c.q, .int .i64 c.t, .int .i64 c.k, .int .i64 c.vk, .int .i64 c.vn, .string c.s] 28))) := below_new W1 _
      cases hq : lowB at9 c with
      | true =>
        have hlow : Op.bytesLess c.r.toList at9.toList = true := by rw [low_is]; exact hq
        have HQ := hid hq
        clear hq
        go_upto_region 6 with (fail)
        go_upto_region 8 with (first | (at_builtin; refine wpList_append_cell9 rfl (.tmp 20) (.tmp 22) rfl _ w.heap.size _ a rfl (HI.out.2.ra.below HB2.out) _ 1 rfl c (cell_new9 c _) (by rw [HNa.out]; omega) (Nat.le_trans HI.out.2.be.size HB2.out.size) ?_; intro v2 w2 hr2 hg2 ho2; have HE := hid (HI.out.2.moreA HB2.out hr2 hg2 ho2); clear hr2 hg2 ho2))
        go_wp2
        go_roundw
        case rel => exact ⟨i + 1, by omega, by go_num, by show SpM _ _ _ _ _ _; rw [filt_snoc HC.out, if_pos HQ.out, filt_snoc HC.out, if_neg (by rw [HQ.out]; simp), HA.out, HD.out]; exact HE.out⟩
        case measure => simp [intOf]; omega
      | false =>
        have hlow : Op.bytesLess c.r.toList at9.toList = false := by rw [low_is]; exact hq
        have HQ := hid hq
        clear hq
        go_upto_region 7 with (fail)
        go_upto_region 8 with (first | (at_builtin; refine wpList_append_cell9 rfl (.tmp 24) (.tmp 26) rfl _ w.heap.size _ d rfl (HI.out.2.rb.below HB2.out) _ 1 rfl c (cell_new9 c _) (by rw [HNb.out]; omega) (Nat.le_trans HI.out.2.be.size HB2.out.size) ?_; intro v2 w2 hr2 hg2 ho2; have HE := hid (HI.out.2.moreB HB2.out hr2 hg2 ho2); clear hr2 hg2 ho2))
        go_wp2
        go_roundw
        case rel => exact ⟨i + 1, by omega, by go_num, by show SpM _ _ _ _ _ _; rw [filt_snoc HC.out, if_neg (by rw [HQ.out]; simp), filt_snoc HC.out, if_pos (by rw [HQ.out]; rfl), HA.out, HD.out]; exact HE.out⟩
        case measure => simp [intOf]; omega
    · obtain rfl : i = n := by omega
      have HZ : Hid (SpM w wr (.slice Aa ((l.take i).filter fun c => lowB at9 c).length ca) (.slice Ab ((l.take i).filter fun c => !lowB at9 c).length cb) (l.filter fun c => lowB at9 c) (l.filter fun c => !lowB at9 c)) := by
        have := HI.out
        rw [← HN.out] at this ⊢
        rw [List.take_length] at this ⊢
        exact this
      go_wp2
      go_ret2
      exact ⟨_, _, rfl, HZ.out⟩
end Go.Proofs.YtgfkobfkncpmoaaDoor
