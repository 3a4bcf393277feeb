/- merge.own: cells in new memory are the cells. Conditions: the argument stands, one cell at least, a hundred thousand at most; their texts are no longer than any are. -/
import Derived.Test.YtgfkobfkncpmoaaDoorMgQ
import Derived.Test.YtgfkobfkncpmoaaDoorKD
import Derived.Deep.QuietTactic
import Derived.BigQuiet
import Derived.Test.YtgfkobfkncpmoaaDoorShelfC
import Derived.Deep.RegionHeld3
import Derived.Deep.WholeRow
namespace Go.Proofs.YtgfkobfkncpmoaaDoor
open Go.RowKit

/-- slices.Clone at cells that stand. -/
theorem clone9_any (ad : Addr) (cap : Nat) (l : List CT) (hl : l.length ≤ 100000) (w : World) (h : ClA w (.slice (some ad) l.length cap) l) :
    Calls Tryd.prog 118 #[.slice (some ad) l.length cap] w fun e w' => ∃ v', e = .returned v' ∧ CRow w' w.heap.size v' l ∧ Below w.heap.size w w' := by
  have q22 : ∀ (w : World) (a : Option Addr) (n c n' c' : Nat), (binOp .eql 39 (.slice a n c) (.slice none n' c')).run Tryd.prog w = .ok (.bool a.isNone) w := fun w a n c n' c' => Lib.run_eql_slice_nil w _ _ a n c n' c' Tryd.underlying39
  have HS := hid h
  have HR := hid (empty_crow w w.heap.size (Nat.le_refl _))
  have HL := hid hl
  clear hl h
  obtain ⟨n, hn⟩ : ∃ n, l.length = n := ⟨_, rfl⟩
  have HN := hid hn
  rw [hn] at HS ⊢
  clear hn
  go_enter Tryd.func118, Tryd.ntmps118
  go_wp2_with (first
    | (at_builtin; refine wpList_append_cells rfl (.tmp 5) (.tmp 6) rfl rfl _ w.heap.size _ [] rfl HR.out _ l rfl (HS.out.below (below_new w _)) (by have := HL.out; simp only [List.length_nil]; omega) (by simp) ?_; intro v' w' hR' hb' _))
  go_ret
  exact ⟨_, rfl, hR', (below_new w _).trans hb'⟩


set_option maxHeartbeats 1000000 in
theorem tclone_any (s : ByteArray) (hs : s.size ≤ 281474976710656) (w : World) :
    Calls Tryd.prog 168 #[.string s] w fun e w' => e = .returned (.string s) ∧ Below w.heap.size w w' := by
  go_enter Tryd.func168, Tryd.ntmps168
  go_wp2_with (go_at_call 203; refine (Tryd.stringslite_Clone s _ hs).mono ?_; rintro e w5 ⟨rfl, hb5⟩)
  go_ret
  exact ⟨rfl, hb5⟩
/-- A store of what stands there. -/
theorem same9 {W : World} {b j : Nat} {T : TypeId} {xs : Array Value} {v : Value} (h : Blk W b T xs) (hj : xs[j]? = some v) : Below W.heap.size W (W.setCell ⟨b, j, none⟩ v) := by
  refine ⟨rfl, rfl, rfl, by simp, fun k _ => ?_⟩
  by_cases q : k = b
  · subst q
    have h1 := h.set j v
    unfold Blk at h1 h
    rw [h1, h]
    congr 2
    apply Array.ext_getElem?
    intro i
    by_cases q : i = j
    · subst q
      rw [hj]
      have : i < xs.size := by
        rcases Nat.lt_or_ge i xs.size with z | z
        · exact z
        · rw [Array.getElem?_eq_none z] at hj; cases hj
      simp [this]
    · rw [Array.getElem?_setIfInBounds_ne (fun z => q z.symm)]
  · exact heap_setCell_other W ⟨b, j, none⟩ k v q
abbrev OwT (W0 : World) (ob : Nat) (c : CT) (W : World) : Prop :=
  Hid (Below W0.heap.size W0 W ∧ Blk W ob 28 c.e.toArray ∧ ob < W0.heap.size) ∧ (W.cell? ⟨ob, 0, none⟩ = some (.string c.r) ∧ W.cell? ⟨ob, 1, none⟩ = some (.string c.f) ∧ W.cell? ⟨ob, 2, none⟩ = some (.string c.q)) ∧ W.frozen? ⟨ob, 0, none⟩ = false ∧ W.frozen? ⟨ob, 1, none⟩ = false ∧ W.frozen? ⟨ob, 2, none⟩ = false
theorem owT_of {W0 W : World} {ob : Nat} {c : CT} (h1 : Below W0.heap.size W0 W) (h2 : Blk W ob 28 c.e.toArray) (h3 : ob < W0.heap.size) : OwT W0 ob c W := ⟨⟨h1, h2, h3⟩, ⟨h2.cell 0, h2.cell 1, h2.cell 2⟩, h2.free 0, h2.free 1, h2.free 2⟩
theorem owT_call {W0 W W' : World} {ob : Nat} {c : CT} (h : OwT W0 ob c W) (hb : Below W.heap.size W W') : OwT W0 ob c W' := by
  obtain ⟨h1, h2, h3⟩ := h.1.out
  exact owT_of (h1.trans (hb.mono h1.size)) (h2.keep hb h2.lt) h3
theorem owT_drew {W0 W : World} {ob : Nat} {c : CT} (h : OwT W0 ob c W) : OwT W0 ob c W.drew := owT_call h (Below.refl _ _).drew
theorem owT_set {W0 W : World} {ob : Nat} {c : CT} (h : OwT W0 ob c W) (j : Nat) (v : Value) (hj : c.e[j]? = some v) : OwT W0 ob c (W.setCell ⟨ob, j, none⟩ v) := by
  obtain ⟨h1, h2, h3⟩ := h.1.out
  have hb := same9 h2 (j := j) (v := v) (by rw [List.getElem?_toArray]; exact hj)
  exact owT_call h hb
/-- Eight words of a row that stand there already. -/
def set8x (W : World) (g p : Nat) (c : CT) : World := (((((((W.setCell ⟨g, p, none⟩ (.string c.r)).setCell ⟨g, p + 1, none⟩ (.string c.f)).setCell ⟨g, p + 2, none⟩ (.string c.q)).setCell ⟨g, p + 3, none⟩ (.int .i64 c.t)).setCell ⟨g, p + 4, none⟩ (.int .i64 c.k)).setCell ⟨g, p + 5, none⟩ (.int .i64 c.vk)).setCell ⟨g, p + 6, none⟩ (.int .i64 c.vn)).setCell ⟨g, p + 7, none⟩ (.string c.s)
theorem set8x_same {W : World} {g p : Nat} {T : TypeId} {xs : Array Value} {c : CT} (h : Blk W g T xs) (hc : ∀ j, j < 8 → xs[p + j]? = c.e[j]?) : Below W.heap.size W (set8x W g p c) := by
  have step : ∀ {W1 : World} (j : Nat) (v : Value), Below W.heap.size W W1 → j < 8 → c.e[j]? = some v → Below W.heap.size W (W1.setCell ⟨g, p + j, none⟩ v) := fun {W1} j v hb hj hv =>
    hb.trans ((same9 (h.keep hb h.lt) (by rw [hc j hj]; exact hv)).mono hb.size)
  exact step 7 _ (step 6 _ (step 5 _ (step 4 _ (step 3 _ (step 2 _ (step 1 _ (step 0 _ (Below.refl _ W) (by omega) rfl) (by omega) rfl) (by omega) rfl) (by omega) rfl) (by omega) rfl) (by omega) rfl) (by omega) rfl) (by omega) rfl
theorem crow_blk {W : World} {B G n cap : Nat} {l : List CT} (h : CRow W B (.slice (some ⟨G, 0, none⟩) n cap) l) : ∃ xs, Blk W G 28 xs ∧ ∀ (i j : Nat) (c : CT), l[i]? = some c → j < 8 → xs[i * 8 + j]? = c.e[j]? := by
  obtain ⟨cur, hc⟩ := x_blk h (g := G) rfl
  refine ⟨cur, hc, fun i j c hi hj => ?_⟩
  obtain ⟨hl, e⟩ := List.getElem?_eq_some_iff.1 hi
  have h1 := h.hc i hl j hj
  rw [Nat.zero_add, hc.cell, e] at h1
  exact h1
theorem own_put {W : World} {B G n cap i : Nat} {l : List CT} {c : CT} (h : CRow W B (.slice (some ⟨G, 0, none⟩) n cap) l) (hi : l[i]? = some c) : Below W.heap.size W (set8x W G (i * 8) c) := by
  obtain ⟨xs, hb, hx⟩ := crow_blk h
  exact set8x_same hb fun j hj => hx i j c hi hj
theorem own_free {W : World} {B G n cap : Nat} {l : List CT} (h : CRow W B (.slice (some ⟨G, 0, none⟩) n cap) l) (o : Nat) : W.frozen? ⟨G, o, none⟩ = false := by
  obtain ⟨xs, hb, _⟩ := crow_blk h
  exact hb.free o

set_option maxRecDepth 100000 in
set_option maxHeartbeats 8000000 in
theorem own9_any (v : Value) (l : List CT) (h0 : 0 < l.length) (hl : l.length ≤ 100000) (hs : ∀ c ∈ l, c.r.size ≤ 281474976710656 ∧ c.f.size ≤ 281474976710656 ∧ c.q.size ≤ 281474976710656 ∧ c.s.size ≤ 281474976710656) (w : World) (h : ClA w v l) :
    Calls Tryd.prog 127 #[v] w fun e w' => ∃ v', e = .returned v' ∧ CRow w' w.heap.size v' l ∧ Below w.heap.size w w' := by
  have mixed : Tryd.prog.follows .mixedOrders = true := by kernel_rfl
  have HV := hid h
  obtain ⟨A, cap, rfl, hc1, hc2, hh⟩ := h
  obtain ⟨b, off, rfl, hhc⟩ := hh h0
  have HCn := hid (clone9_any ⟨b, off, none⟩ cap l hl w HV.out)
  have HCl : Hid (∀ (s : ByteArray), s.size ≤ 281474976710656 → ∀ W, Calls Tryd.prog 168 #[.string s] W fun e w' => e = .returned (.string s) ∧ Below W.heap.size W w') := fun s hs W => tclone_any s hs W
  have HS := hid hs
  obtain ⟨n, hn⟩ : ∃ n, l.length = n := ⟨_, rfl⟩
  have HN := hid hn
  rw [hn] at h0 hl HCn ⊢
  clear hh hhc hs hn HV
  go_enter Tryd.func127, Tryd.ntmps127
  go_upto_region 2 with (first | (go_at_call 118; refine HCn.out.mono ?_; rintro e w1 ⟨v1, rfl, hr1, hb1⟩))
  obtain ⟨A1, c1, rfl, hc9, hm9⟩ := hr1.len
  obtain ⟨_, _, ed, _, _, hdc⟩ := hr1.cla
  injection ed with ed1 ed2 ed3
  subst ed1 ed3
  obtain ⟨G, o1, rfl, hhd⟩ := hdc (by rw [HN.out]; exact h0)
  obtain rfl : o1 = 0 := by
    rcases hr1.2 with ⟨e, _⟩ | ⟨g, _, _, e, _⟩
    · cases e
    · injection e with e
      injection e with e
      injection e
  rw [HN.out] at hr1 hc9 ⊢
  have HR := hid hr1
  have HB := hid hb1
  clear hr1 hb1 HCn hdc hhd ed2
  go_wp2
  go_loopw [9] (fun vi wr => ∃ i : Nat, i ≤ n ∧ vi = .int .i64 i ∧ Hid (CRow wr w.heap.size (.slice (some ⟨G, 0, none⟩) n c1) l ∧ Below w.heap.size w wr)) (fun vi _ => n - (intOf vi).toNat)
  case atStart => exact ⟨0, Nat.zero_le _, rfl, HR.out, HB.out⟩
  case round =>
    clear HR HB
    obtain ⟨i, hi, rfl, HI⟩ := hrel
    by_cases hlt : i < n
    · have hltz : (i : Int) < (n : Int) := by omega
      have hil : i < l.length := by rw [HN.out]; exact hlt
      obtain ⟨c, hc⟩ : ∃ c, l[i]? = some c := ⟨_, List.getElem?_eq_getElem hil⟩
      have HC := hid hc
      have hsz := HS.out c (List.mem_of_getElem? hc)
      have HCr := hid (HCl.out c.r hsz.1)
      have HCf := hid (HCl.out c.f hsz.2.1)
      have HCq := hid (HCl.out c.q hsz.2.2.1)
      have HCs := hid (HCl.out c.s hsz.2.2.2)
      have P := ct_words HI.out.1.hc i hc
      rw [Nat.zero_add] at P
      obtain ⟨x0, x1, x2, x3, x4, x5, x6, x7⟩ := P
      clear hc hsz hil
      go_upto_region 5 with (fail)
      clear x0 x1 x2 x3 x4 x5 x6 x7
      obtain ⟨ob, hob⟩ : ∃ ob, wr.heap.size = ob := ⟨_, rfl⟩
      refine wp_lt9 (fun W => Hid (OwT W ob c W ∧ Below w.heap.size w W ∧ CRow W w.heap.size (.slice (some ⟨G, 0, none⟩) n c1) l)) ?_ ?_
      · rw [← hob]
        have k1 := Blk.new wr 28 c.e.toArray
        exact ⟨owT_of (Below.refl _ _) k1 (by rw [World.size_alloc]; omega), HI.out.2.trans ((below_new wr _).mono HI.out.2.size), HI.out.1.below (below_new wr _)⟩
      rw [hob]
      clear hob
      rintro W HW
      obtain ⟨h9, ⟨c0, c1', c2'⟩, f0, f1, f2⟩ := HW.out.1
      have HTT := hid HW.out.1
      go_region_held3 (fun W' => Hid (Below W.heap.size W W' ∧ Blk W' ob 28 c.e.toArray ∧ ob < W.heap.size) ∧ (W'.cell? ⟨ob, 0, none⟩ = some (.string c.r) ∧ W'.cell? ⟨ob, 1, none⟩ = some (.string c.f) ∧ W'.cell? ⟨ob, 2, none⟩ = some (.string c.q)) ∧ W'.frozen? ⟨ob, 0, none⟩ = false ∧ W'.frozen? ⟨ob, 1, none⟩ = false ∧ W'.frozen? ⟨ob, 2, none⟩ = false)
        (first | exact HTT.out | exact owT_drew HTT.out | exact owT_call (by assumption) hb5 | exact owT_set (by assumption) 0 _ rfl | exact owT_set (by assumption) 1 _ rfl | exact owT_set (by assumption) 2 _ rfl | exact owT_drew (by assumption) | assumption)
        (first | (go_at_call 168; ((with_reducible refine (HCr.out _).mono ?_)); rintro e w5 ⟨rfl, hb5⟩) | (go_at_call 168; ((with_reducible refine (HCf.out _).mono ?_)); rintro e w5 ⟨rfl, hb5⟩) | (go_at_call 168; ((with_reducible refine (HCq.out _).mono ?_)); rintro e w5 ⟨rfl, hb5⟩))
      rename_i hLast
      have hLb := hid hLast.1.out.2.1
      have q7 := hLb.out.cell 7
      simp only [CT.e, List.getElem?_toArray, List.getElem?_cons_zero, List.getElem?_cons_succ] at q7
      have HBl := hid (And.intro (HW.out.2.2.below hLast.1.out.1) (HW.out.2.1.trans (hLast.1.out.1.mono HW.out.2.1.size)))
      clear hLast HW HTT h9 c0 c1' c2' f0 f1 f2
      go_upto_region 7 with (first | (go_at_call 168; refine (HCs.out _).mono ?_; rintro e w6 ⟨rfl, hb6⟩; have k6 := hid (hLb.out.keep hb6 hLb.out.lt); have z7 : w6.cell? ⟨ob, 7, none⟩ = some (.string c.s) := k6.out.cell 7; have zf : w6.frozen? ⟨ob, 7, none⟩ = false := k6.out.free 7; have HB6 := hid (And.intro (HBl.out.1.below hb6) (HBl.out.2.trans (hb6.mono HBl.out.2.size))); clear hb6))
      refine wp_lt9 (fun W => Hid (Blk W ob 28 c.e.toArray ∧ CRow W w.heap.size (.slice (some ⟨G, 0, none⟩) n c1) l ∧ Below w.heap.size w W)) ?_ ?_
      · have b7 := same9 k6.out (j := 7) (v := .string c.s) rfl
        exact ⟨k6.out.keep b7 k6.out.lt, HB6.out.1.below b7, HB6.out.2.trans (b7.mono HB6.out.2.size)⟩
      clear zf z7 k6 HB6 HBl hLb q7
      rintro W7 H7
      have HI7 := hid H7.out.2.1
      have e0 : W7.cell? ⟨ob, 0, none⟩ = some (.string c.r) := H7.out.1.cell 0; have e1 : W7.cell? ⟨ob, 1, none⟩ = some (.string c.f) := H7.out.1.cell 1; have e2 : W7.cell? ⟨ob, 2, none⟩ = some (.string c.q) := H7.out.1.cell 2; have e3 : W7.cell? ⟨ob, 3, none⟩ = some (.int .i64 c.t) := H7.out.1.cell 3; have e4 : W7.cell? ⟨ob, 4, none⟩ = some (.int .i64 c.k) := H7.out.1.cell 4; have e5 : W7.cell? ⟨ob, 5, none⟩ = some (.int .i64 c.vk) := H7.out.1.cell 5; have e6 : W7.cell? ⟨ob, 6, none⟩ = some (.int .i64 c.vn) := H7.out.1.cell 6; have e7 : W7.cell? ⟨ob, 7, none⟩ = some (.string c.s) := H7.out.1.cell 7
      have hfr : ∀ o, W7.frozen? ⟨G, o, none⟩ = false := own_free HI7.out
      have HP := hid (own_put HI7.out HC.out)
      have P := ct_words HI7.out.hc i HC.out
      rw [Nat.zero_add] at P
      obtain ⟨x0, x1, x2, x3, x4, x5, x6, x7⟩ := P
      have HZ : Hid (CRow (set8x W7 G (i * 8) c) w.heap.size (.slice (some ⟨G, 0, none⟩) n c1) l ∧ Below w.heap.size w (set8x W7 G (i * 8) c)) := ⟨HI7.out.below HP.out, H7.out.2.2.trans (HP.out.mono H7.out.2.2.size)⟩
      go_wp2
      go_roundw
      case rel => exact ⟨i + 1, by omega, by go_num, HZ.out⟩
      case measure => simp [intOf]; omega
    · obtain rfl : i = n := by omega
      go_wp2
      go_ret
      exact ⟨_, rfl, HI.out.1, HI.out.2⟩
end Go.Proofs.YtgfkobfkncpmoaaDoor
