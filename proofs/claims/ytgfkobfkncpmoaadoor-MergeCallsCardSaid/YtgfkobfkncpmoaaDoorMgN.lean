/- merge.beginning: how many of the first cells are a run. Conditions: the argument stands, its cells are such as a machine bears. -/
import Derived.Test.YtgfkobfkncpmoaaDoorMgL
import Derived.Test.YtgfkobfkncpmoaaDoorP5
import Derived.Test.YtgfkobfkncpmoaaDoorNO
import Derived.Deep.RegionHeld3
import Derived.RegionTactic
namespace Go.Proofs.YtgfkobfkncpmoaaDoor
open Go.RowKit

theorem cright9 (c : CT) (h : okC c) (w : World) (hL : LaidU w) : Calls Tryd.prog 80 #[c.v] w fun e w' => e = .returned (.bool c.ok) ∧ Below w.heap.size w w' :=
  cright_any c.r c.f c.q c.s c.t c.k c.vk h.2.2 h.1 h.2.1 w hL
theorem ordc10 (x y : CT) (w : World) : Calls Tryd.prog 78 #[x.v, y.v] w fun e w' => e = .returned (.int .i64 (CT.cmp x y)) ∧ Below w.heap.size w w' :=
  corder_any x.r x.f x.q x.s x.t x.k x.vk x.vn y.r y.f y.q y.s y.t y.k y.vk y.vn w
/-- How many of the first cells are a run; these. -/
def begI (l : List CT) : Nat := begN CT.cmp CT.ok none l
def begL (l : List CT) : List CT := begG CT.cmp CT.ok l
def prvL (l : List CT) : Nat → Option CT
  | 0 => none
  | k + 1 => l[k]?
theorem beg_step {l : List CT} {i : Nat} {y : CT} (hy : l[i]? = some y) (p : Option CT) : begN CT.cmp CT.ok p (l.drop i) = if (y.ok && ahdB CT.cmp p y) = true then begN CT.cmp CT.ok (some y) (l.drop (i + 1)) + 1 else 0 := by
  obtain ⟨hi, e⟩ := List.getElem?_eq_some_iff.1 hy
  rw [List.drop_eq_getElem_cons hi, e, begN]
theorem beg_stop {l : List CT} {i : Nat} {y : CT} {R : Nat} (h : R = i + begN CT.cmp CT.ok (prvL l i) (l.drop i)) (hy : l[i]? = some y) (hn : (y.ok && ahdB CT.cmp (prvL l i) y) = false) : R = i := by
  rw [h, beg_step hy, if_neg (by rw [hn]; simp)]
  rfl
theorem beg_go {l : List CT} {i : Nat} {y : CT} {R : Nat} (h : R = i + begN CT.cmp CT.ok (prvL l i) (l.drop i)) (hy : l[i]? = some y) (hn : (y.ok && ahdB CT.cmp (prvL l i) y) = true) : R = i + 1 + begN CT.cmp CT.ok (prvL l (i + 1)) (l.drop (i + 1)) := by
  rw [beg_step hy, if_pos hn] at h
  rw [h, show prvL l (i + 1) = some y from hy]
  omega

set_option maxRecDepth 100000 in
set_option maxHeartbeats 8000000 in
theorem beg_any (v : Value) (l : List CT) (w : World) (h : ClA w v l) (hs : ∀ c ∈ l, okC c) (hL : LaidU w) :
    Calls Tryd.prog 182 #[v] w fun e w' => e = .returned (.int .i64 (begI l : Int)) ∧ Below w.heap.size w w' := by
  have mixed : Tryd.prog.follows .mixedOrders = true := by kernel_rfl
  obtain ⟨A, cap, rfl, hc1, hc2, hh⟩ := h
  have HH := hid hh
  clear hh
  obtain ⟨m, hm⟩ : ∃ m, l.length = m := ⟨_, rfl⟩
  have HM := hid hm
  rw [hm] at hc1 ⊢
  clear hm
  have HRt : Hid (∀ c ∈ l, ∀ W, Below w.heap.size w W → Calls Tryd.prog 80 #[c.v] W fun e w' => e = .returned (.bool c.ok) ∧ Below W.heap.size W w') := fun c hc W hW => cright9 c (hs c hc) W (hL.below hW)
  have HOr : Hid (∀ (x y : CT) (W : World), Calls Tryd.prog 78 #[x.v, y.v] W fun e w' => e = .returned (.int .i64 (CT.cmp x y)) ∧ Below W.heap.size W w') := ordc10
  obtain ⟨R, hR⟩ : ∃ R, begI l = R := ⟨_, rfl⟩
  have HF0 : Hid (R = 0 + begN CT.cmp CT.ok (prvL l 0) (l.drop 0)) := by show _ = _; rw [← hR, Nat.zero_add]; rfl
  rw [hR]
  clear hR hs hL
  go_enter Tryd.func182, Tryd.ntmps182
  go_wp2
  go_loopw [7] (fun vi wr => ∃ i : Nat, i ≤ m ∧ vi = .int .i64 i ∧ Hid (Below w.heap.size w wr) ∧ Hid (R = i + begN CT.cmp CT.ok (prvL l i) (l.drop i))) (fun vi _ => m - (intOf vi).toNat)
  case atStart => exact ⟨0, Nat.zero_le _, rfl, Below.refl _ _, HF0.out⟩
  case round =>
    obtain ⟨i, hi, rfl, HB, HI⟩ := hrel
    by_cases hlt : i < m
    · have him : i < l.length := by rw [HM.out]; exact hlt
      obtain ⟨b, off, rfl, hhc⟩ := HH.out (by omega)
      have hbw : b < w.heap.size := hhc.lt (by omega)
      obtain ⟨y, hy⟩ : ∃ y, l[i]? = some y := ⟨_, List.getElem?_eq_getElem him⟩
      have HRy0 := hid (HRt.out y (List.mem_of_getElem? hy))
      cases hok : y.ok with
      | false =>
        have hltz : (i : Int) < (m : Int) := by omega
        have HSt : Hid (R = i) := beg_stop HI.out hy (by rw [hok]; rfl)
        have HRy : Hid (∀ W, Below w.heap.size w W → Calls Tryd.prog 80 #[y.v] W fun e w' => e = .returned (.bool false) ∧ Below W.heap.size W w') := by rw [← hok]; exact HRy0.out
        obtain ⟨y0, y1, y2, y3, y4, y5, y6, y7⟩ := ct_words (hhc.below HB.out hbw) i hy
        clear hhc hy him hlt hok HRy0
        go_upto_region 4 with (fail)
        clear y0 y1 y2 y3 y4 y5 y6 y7
        have HX0 := hid (And.intro (And.intro (Blk.new wr 28 y.e.toArray) (below_new wr (.cells #[.string y.r, .string y.f, .string y.q, .int .i64 y.t, .int .i64 y.k, .int .i64 y.vk, .int .i64 y.vn, .string y.s] 28))) (World.size_alloc wr (.cells #[.string y.r, .string y.f, .string y.q, .int .i64 y.t, .int .i64 y.k, .int .i64 y.vk, .int .i64 y.vn, .string y.s] 28)))
        obtain ⟨W1, hW1⟩ : ∃ W, wr.alloc (.cells #[.string y.r, .string y.f, .string y.q, .int .i64 y.t, .int .i64 y.k, .int .i64 y.vk, .int .i64 y.vn, .string y.s] 28) = W := ⟨_, rfl⟩
        have HX1 : Hid ((DW W1 wr.heap.size y ∧ Below wr.heap.size wr W1) ∧ W1.heap.size = wr.heap.size + 1) := by rw [← hW1]; exact HX0.out
        rw [hW1]
        have HB1 := hid (HB.out.trans (HX1.out.1.2.mono HB.out.size))
        obtain ⟨cb, hcb⟩ : ∃ cb, wr.heap.size = cb := ⟨_, rfl⟩
        have HXc : Hid (DW W1 cb y ∧ cb < W1.heap.size) := ⟨by rw [← hcb]; exact HX1.out.1.1, by rw [← hcb, HX1.out.2]; omega⟩
        rw [hcb]
        have HT : Hid (SingW W1 cb 0 y W1) := ⟨hid ⟨Below.refl _ _, HXc.out.2⟩, HXc.out.1.words⟩
        obtain ⟨-, ⟨y0, y1, y2, y3, y4, y5, y6, y7⟩⟩ := HT.out
        clear hW1 hcb HX0 HX1
        refine wp_region_held_drew (S := (fun W' => Hid (Below W1.heap.size W1 W' ∧ cb < W1.heap.size) ∧ (W'.cell? ⟨cb, 0, none⟩ = some (.string y.r) ∧ W'.cell? ⟨cb, 1, none⟩ = some (.string y.f) ∧ W'.cell? ⟨cb, 2, none⟩ = some (.string y.q) ∧ W'.cell? ⟨cb, 3, none⟩ = some (.int .i64 y.t) ∧ W'.cell? ⟨cb, 4, none⟩ = some (.int .i64 y.k) ∧ W'.cell? ⟨cb, 5, none⟩ = some (.int .i64 y.vk) ∧ W'.cell? ⟨cb, 6, none⟩ = some (.int .i64 y.vn) ∧ W'.cell? ⟨cb, 7, none⟩ = some (.string y.s)))) (by kernel_rfl) ?_ (fun hHeld => ?_)
        (exact sing_drew HT.out)
        (refine wpAnyH_take (i := 0) (v := ?_) rfl (by kernel_rfl) (by kernel_rfl) (by kernel_rfl) (fun _ _ _ h => h) (Or.inl ⟨by kernel_rfl, ?_⟩) (by assumption) ?_; rotate_left; · (intro w hSw; (try dsimp only at hSw); go_simp; first | done | with_reducible rfl))
        (try simp only [Act.put]); (try simp only [List.getElem_toArray]); (try simp only [List.getElem_cons_succ]); (try simp only [List.getElem_cons_zero]); (try simp only [List.setIfInBounds_toArray]); (try simp only [List.set_cons_succ]); (try simp only [List.set_cons_zero])
        (refine wpAnyH_ready (rs := [1]) (by kernel_rfl) (by simp) (AllReadyH.cons rfl (fun K hK => ?_) AllReadyH.nil); go_simp; (go_at_call 80; refine (HRy.out _ (HB1.out.trans ((Below.refl _ W1).drew.mono HB1.out.size))).mono ?_; rintro e w5 ⟨rfl, hb5⟩); refine hK.out _ _ ?_ (fun hHeld => ?_))
        · exact sing_call (by assumption) hb5
        clear hK K
        (try simp only [Act.put]); (try simp only [List.getElem_toArray]); (try simp only [List.getElem_cons_succ]); (try simp only [List.getElem_cons_zero]); (try simp only [List.setIfInBounds_toArray]); (try simp only [List.set_cons_succ]); (try simp only [List.set_cons_zero])
        (refine wpAnyH_take (i := 2) (v := ?_) rfl (by kernel_rfl) (by kernel_rfl) (by kernel_rfl) (fun _ _ _ h => h) (Or.inl ⟨by kernel_rfl, ?_⟩) (by assumption) ?_; rotate_left; · (intro w hSw; (try dsimp only at hSw); go_simp; first | done | with_reducible rfl))
        (try simp only [Act.put]); (try simp only [List.getElem_toArray]); (try simp only [List.getElem_cons_succ]); (try simp only [List.getElem_cons_zero]); (try simp only [List.setIfInBounds_toArray]); (try simp only [List.set_cons_succ]); (try simp only [List.set_cons_zero])
        (refine wpAnyH_take (i := 3) (v := ?_) rfl (by kernel_rfl) (by kernel_rfl) (by kernel_rfl) (fun _ _ _ h => h) (Or.inl ⟨by kernel_rfl, ?_⟩) (by assumption) ?_; rotate_left; · (intro w hSw; (try dsimp only at hSw); go_simp; first | done | with_reducible rfl))
        (try simp only [Act.put]); (try simp only [List.getElem_toArray]); (try simp only [List.getElem_cons_succ]); (try simp only [List.getElem_cons_zero]); (try simp only [List.setIfInBounds_toArray]); (try simp only [List.set_cons_succ]); (try simp only [List.set_cons_zero])
        (refine wpAnyH_take (i := 4) (v := undef) rfl (by kernel_rfl) (by kernel_rfl) (by kernel_rfl) (fun _ _ _ h => h) (Or.inr ⟨by kernel_rfl, rfl⟩) (by assumption) ?_; (try simp only [Act.put]); (try simp only [List.getElem_toArray]); (try simp only [List.getElem_cons_succ]); (try simp only [List.getElem_cons_zero]); (try simp only [List.setIfInBounds_toArray]); (try simp only [List.set_cons_succ]); (try simp only [List.set_cons_zero]))
        (refine wpAnyH_take (i := 5) (v := undef) rfl (by kernel_rfl) (by kernel_rfl) (by kernel_rfl) (fun _ _ _ h => h) (Or.inr ⟨by kernel_rfl, rfl⟩) (by assumption) ?_; (try simp only [Act.put]); (try simp only [List.getElem_toArray]); (try simp only [List.getElem_cons_succ]); (try simp only [List.getElem_cons_zero]); (try simp only [List.setIfInBounds_toArray]); (try simp only [List.set_cons_succ]); (try simp only [List.set_cons_zero]))
        (refine wpAnyH_take (i := 6) (v := undef) rfl (by kernel_rfl) (by kernel_rfl) (by kernel_rfl) (fun _ _ _ h => h) (Or.inr ⟨by kernel_rfl, rfl⟩) (by assumption) ?_; (try simp only [Act.put]); (try simp only [List.getElem_toArray]); (try simp only [List.getElem_cons_succ]); (try simp only [List.getElem_cons_zero]); (try simp only [List.setIfInBounds_toArray]); (try simp only [List.set_cons_succ]); (try simp only [List.set_cons_zero]))
        (refine wpAnyH_take (i := 7) (v := undef) rfl (by kernel_rfl) (by kernel_rfl) (by kernel_rfl) (fun _ _ _ h => h) (Or.inr ⟨by kernel_rfl, rfl⟩) (by assumption) ?_; (try simp only [Act.put]); (try simp only [List.getElem_toArray]); (try simp only [List.getElem_cons_succ]); (try simp only [List.getElem_cons_zero]); (try simp only [List.setIfInBounds_toArray]); (try simp only [List.set_cons_succ]); (try simp only [List.set_cons_zero]))
        (refine wpAnyH_take (i := 8) (v := undef) rfl (by kernel_rfl) (by kernel_rfl) (by kernel_rfl) (fun _ _ _ h => h) (Or.inr ⟨by kernel_rfl, rfl⟩) (by assumption) ?_; (try simp only [Act.put]); (try simp only [List.getElem_toArray]); (try simp only [List.getElem_cons_succ]); (try simp only [List.getElem_cons_zero]); (try simp only [List.setIfInBounds_toArray]); (try simp only [List.set_cons_succ]); (try simp only [List.set_cons_zero]))
        (refine wpAnyH_take (i := 9) (v := undef) rfl (by kernel_rfl) (by kernel_rfl) (by kernel_rfl) (fun _ _ _ h => h) (Or.inr ⟨by kernel_rfl, rfl⟩) (by assumption) ?_; (try simp only [Act.put]); (try simp only [List.getElem_toArray]); (try simp only [List.getElem_cons_succ]); (try simp only [List.getElem_cons_zero]); (try simp only [List.setIfInBounds_toArray]); (try simp only [List.set_cons_succ]); (try simp only [List.set_cons_zero]))
        (refine wpAnyH_take (i := 10) (v := undef) rfl (by kernel_rfl) (by kernel_rfl) (by kernel_rfl) (fun _ _ _ h => h) (Or.inr ⟨by kernel_rfl, rfl⟩) (by assumption) ?_; (try simp only [Act.put]); (try simp only [List.getElem_toArray]); (try simp only [List.getElem_cons_succ]); (try simp only [List.getElem_cons_zero]); (try simp only [List.setIfInBounds_toArray]); (try simp only [List.set_cons_succ]); (try simp only [List.set_cons_zero]))
        (refine wpAnyH_take (i := 11) (v := undef) rfl (by kernel_rfl) (by kernel_rfl) (by kernel_rfl) (fun _ _ _ h => h) (Or.inr ⟨by kernel_rfl, rfl⟩) (by assumption) ?_; (try simp only [Act.put]); (try simp only [List.getElem_toArray]); (try simp only [List.getElem_cons_succ]); (try simp only [List.getElem_cons_zero]); (try simp only [List.setIfInBounds_toArray]); (try simp only [List.set_cons_succ]); (try simp only [List.set_cons_zero]))
        (refine wpAnyH_take (i := 12) (v := undef) rfl (by kernel_rfl) (by kernel_rfl) (by kernel_rfl) (fun _ _ _ h => h) (Or.inr ⟨by kernel_rfl, rfl⟩) (by assumption) ?_; (try simp only [Act.put]); (try simp only [List.getElem_toArray]); (try simp only [List.getElem_cons_succ]); (try simp only [List.getElem_cons_zero]); (try simp only [List.setIfInBounds_toArray]); (try simp only [List.set_cons_succ]); (try simp only [List.set_cons_zero]))
        (refine wpAnyH_take (i := 13) (v := undef) rfl (by kernel_rfl) (by kernel_rfl) (by kernel_rfl) (fun _ _ _ h => h) (Or.inr ⟨by kernel_rfl, rfl⟩) (by assumption) ?_; (try simp only [Act.put]); (try simp only [List.getElem_toArray]); (try simp only [List.getElem_cons_succ]); (try simp only [List.getElem_cons_zero]); (try simp only [List.setIfInBounds_toArray]); (try simp only [List.set_cons_succ]); (try simp only [List.set_cons_zero]))
        (refine wpAnyH_take (i := 14) (v := undef) rfl (by kernel_rfl) (by kernel_rfl) (by kernel_rfl) (fun _ _ _ h => h) (Or.inr ⟨by kernel_rfl, rfl⟩) (by assumption) ?_; (try simp only [Act.put]); (try simp only [List.getElem_toArray]); (try simp only [List.getElem_cons_succ]); (try simp only [List.getElem_cons_zero]); (try simp only [List.setIfInBounds_toArray]); (try simp only [List.set_cons_succ]); (try simp only [List.set_cons_zero]))
        (refine wpAnyH_take (i := 15) (v := undef) rfl (by kernel_rfl) (by kernel_rfl) (by kernel_rfl) (fun _ _ _ h => h) (Or.inr ⟨by kernel_rfl, rfl⟩) (by assumption) ?_; (try simp only [Act.put]); (try simp only [List.getElem_toArray]); (try simp only [List.getElem_cons_succ]); (try simp only [List.getElem_cons_zero]); (try simp only [List.setIfInBounds_toArray]); (try simp only [List.set_cons_succ]); (try simp only [List.set_cons_zero]))
        (refine wpAnyH_take (i := 16) (v := ?_) rfl (by kernel_rfl) (by kernel_rfl) (by kernel_rfl) (fun _ _ _ h => h) (Or.inl ⟨by kernel_rfl, ?_⟩) (by assumption) ?_; rotate_left; · (intro w hSw; (try dsimp only at hSw); go_simp; first | done | with_reducible rfl))
        (try simp only [Act.put]); (try simp only [List.getElem_toArray]); (try simp only [List.getElem_cons_succ]); (try simp only [List.getElem_cons_zero]); (try simp only [List.setIfInBounds_toArray]); (try simp only [List.set_cons_succ]); (try simp only [List.set_cons_zero])
        refine wpAnyH_done (by kernel_rfl) ?_ _
        have HB2 := hid (HB1.out.trans (hHeld.1.out.1.mono HB1.out.size))
        clear hHeld HT
        clear y0 y1 y2 y3 y4 y5 y6 y7
        go_wp2
        go_ret
        exact ⟨by rw [HSt.out]; rfl, HB2.out⟩
      | true =>
        have HRy : Hid (∀ W, Below w.heap.size w W → Calls Tryd.prog 80 #[y.v] W fun e w' => e = .returned (.bool true) ∧ Below W.heap.size W w') := by rw [← hok]; exact HRy0.out
        cases i with
        | zero =>
          have hltz : (0 : Int) < (m : Int) := by omega
          have HIn := hid (beg_go HI.out hy (by rw [hok]; rfl))
          have P := ct_words (hhc.below HB.out hbw) 0 hy
          rw [Nat.zero_mul, Nat.add_zero] at P
          obtain ⟨y0, y1, y2, y3, y4, y5, y6, y7⟩ := P
          clear hhc hy him hlt hok HRy0
          go_upto_region 4 with (fail)
          clear y0 y1 y2 y3 y4 y5 y6 y7
          have HX0 := hid (And.intro (And.intro (Blk.new wr 28 y.e.toArray) (below_new wr (.cells #[.string y.r, .string y.f, .string y.q, .int .i64 y.t, .int .i64 y.k, .int .i64 y.vk, .int .i64 y.vn, .string y.s] 28))) (World.size_alloc wr (.cells #[.string y.r, .string y.f, .string y.q, .int .i64 y.t, .int .i64 y.k, .int .i64 y.vk, .int .i64 y.vn, .string y.s] 28)))
          obtain ⟨W1, hW1⟩ : ∃ W, wr.alloc (.cells #[.string y.r, .string y.f, .string y.q, .int .i64 y.t, .int .i64 y.k, .int .i64 y.vk, .int .i64 y.vn, .string y.s] 28) = W := ⟨_, rfl⟩
          have HX1 : Hid ((DW W1 wr.heap.size y ∧ Below wr.heap.size wr W1) ∧ W1.heap.size = wr.heap.size + 1) := by rw [← hW1]; exact HX0.out
          rw [hW1]
          have HB1 := hid (HB.out.trans (HX1.out.1.2.mono HB.out.size))
          obtain ⟨cb, hcb⟩ : ∃ cb, wr.heap.size = cb := ⟨_, rfl⟩
          have HXc : Hid (DW W1 cb y ∧ cb < W1.heap.size) := ⟨by rw [← hcb]; exact HX1.out.1.1, by rw [← hcb, HX1.out.2]; omega⟩
          rw [hcb]
          have HT : Hid (SingW W1 cb 0 y W1) := ⟨hid ⟨Below.refl _ _, HXc.out.2⟩, HXc.out.1.words⟩
          obtain ⟨-, ⟨y0, y1, y2, y3, y4, y5, y6, y7⟩⟩ := HT.out
          clear hW1 hcb HX0 HX1
          refine wp_region_held_drew (S := (fun W' => Hid (Below W1.heap.size W1 W' ∧ cb < W1.heap.size) ∧ (W'.cell? ⟨cb, 0, none⟩ = some (.string y.r) ∧ W'.cell? ⟨cb, 1, none⟩ = some (.string y.f) ∧ W'.cell? ⟨cb, 2, none⟩ = some (.string y.q) ∧ W'.cell? ⟨cb, 3, none⟩ = some (.int .i64 y.t) ∧ W'.cell? ⟨cb, 4, none⟩ = some (.int .i64 y.k) ∧ W'.cell? ⟨cb, 5, none⟩ = some (.int .i64 y.vk) ∧ W'.cell? ⟨cb, 6, none⟩ = some (.int .i64 y.vn) ∧ W'.cell? ⟨cb, 7, none⟩ = some (.string y.s)))) (by kernel_rfl) ?_ (fun hHeld => ?_)
          (exact sing_drew HT.out)
          (refine wpAnyH_take (i := 0) (v := ?_) rfl (by kernel_rfl) (by kernel_rfl) (by kernel_rfl) (fun _ _ _ h => h) (Or.inl ⟨by kernel_rfl, ?_⟩) (by assumption) ?_; rotate_left; · (intro w hSw; (try dsimp only at hSw); go_simp; first | done | with_reducible rfl))
          (try simp only [Act.put]); (try simp only [List.getElem_toArray]); (try simp only [List.getElem_cons_succ]); (try simp only [List.getElem_cons_zero]); (try simp only [List.setIfInBounds_toArray]); (try simp only [List.set_cons_succ]); (try simp only [List.set_cons_zero])
          (refine wpAnyH_ready (rs := [1]) (by kernel_rfl) (by simp) (AllReadyH.cons rfl (fun K hK => ?_) AllReadyH.nil); go_simp; (go_at_call 80; refine (HRy.out _ (HB1.out.trans ((Below.refl _ W1).drew.mono HB1.out.size))).mono ?_; rintro e w5 ⟨rfl, hb5⟩); refine hK.out _ _ ?_ (fun hHeld => ?_))
          · exact sing_call (by assumption) hb5
          clear hK K
          (try simp only [Act.put]); (try simp only [List.getElem_toArray]); (try simp only [List.getElem_cons_succ]); (try simp only [List.getElem_cons_zero]); (try simp only [List.setIfInBounds_toArray]); (try simp only [List.set_cons_succ]); (try simp only [List.set_cons_zero])
          (refine wpAnyH_take (i := 2) (v := ?_) rfl (by kernel_rfl) (by kernel_rfl) (by kernel_rfl) (fun _ _ _ h => h) (Or.inl ⟨by kernel_rfl, ?_⟩) (by assumption) ?_; rotate_left; · (intro w hSw; (try dsimp only at hSw); go_simp; first | done | with_reducible rfl))
          (try simp only [Act.put]); (try simp only [List.getElem_toArray]); (try simp only [List.getElem_cons_succ]); (try simp only [List.getElem_cons_zero]); (try simp only [List.setIfInBounds_toArray]); (try simp only [List.set_cons_succ]); (try simp only [List.set_cons_zero])
          (refine wpAnyH_take (i := 3) (v := ?_) rfl (by kernel_rfl) (by kernel_rfl) (by kernel_rfl) (fun _ _ _ h => h) (Or.inl ⟨by kernel_rfl, ?_⟩) (by assumption) ?_; rotate_left; · (intro w hSw; (try dsimp only at hSw); go_simp; first | done | with_reducible rfl))
          (try simp only [Act.put]); (try simp only [List.getElem_toArray]); (try simp only [List.getElem_cons_succ]); (try simp only [List.getElem_cons_zero]); (try simp only [List.setIfInBounds_toArray]); (try simp only [List.set_cons_succ]); (try simp only [List.set_cons_zero])
          (refine wpAnyH_take (i := 4) (v := ?_) rfl (by kernel_rfl) (by kernel_rfl) (by kernel_rfl) (fun _ _ _ h => h) (Or.inl ⟨by kernel_rfl, ?_⟩) (by assumption) ?_; rotate_left; · (intro w hSw; (try dsimp only at hSw); go_simp; first | done | with_reducible rfl))
          (try simp only [Act.put]); (try simp only [List.getElem_toArray]); (try simp only [List.getElem_cons_succ]); (try simp only [List.getElem_cons_zero]); (try simp only [List.setIfInBounds_toArray]); (try simp only [List.set_cons_succ]); (try simp only [List.set_cons_zero])
          (refine wpAnyH_take (i := 5) (v := ?_) rfl (by kernel_rfl) (by kernel_rfl) (by kernel_rfl) (fun _ _ _ h => h) (Or.inl ⟨by kernel_rfl, ?_⟩) (by assumption) ?_; rotate_left; · (intro w hSw; (try dsimp only at hSw); go_simp; first | done | with_reducible rfl))
          (try simp only [Act.put]); (try simp only [List.getElem_toArray]); (try simp only [List.getElem_cons_succ]); (try simp only [List.getElem_cons_zero]); (try simp only [List.setIfInBounds_toArray]); (try simp only [List.set_cons_succ]); (try simp only [List.set_cons_zero])
          (refine wpAnyH_take (i := 6) (v := ?_) rfl (by kernel_rfl) (by kernel_rfl) (by kernel_rfl) (fun _ _ _ h => h) (Or.inl ⟨by kernel_rfl, ?_⟩) (by assumption) ?_; rotate_left; · (intro w hSw; (try dsimp only at hSw); go_simp; first | done | with_reducible rfl))
          (try simp only [Act.put]); (try simp only [List.getElem_toArray]); (try simp only [List.getElem_cons_succ]); (try simp only [List.getElem_cons_zero]); (try simp only [List.setIfInBounds_toArray]); (try simp only [List.set_cons_succ]); (try simp only [List.set_cons_zero])
          (refine wpAnyH_take (i := 7) (v := undef) rfl (by kernel_rfl) (by kernel_rfl) (by kernel_rfl) (fun _ _ _ h => h) (Or.inr ⟨by kernel_rfl, rfl⟩) (by assumption) ?_; (try simp only [Act.put]); (try simp only [List.getElem_toArray]); (try simp only [List.getElem_cons_succ]); (try simp only [List.getElem_cons_zero]); (try simp only [List.setIfInBounds_toArray]); (try simp only [List.set_cons_succ]); (try simp only [List.set_cons_zero]))
          (refine wpAnyH_take (i := 8) (v := undef) rfl (by kernel_rfl) (by kernel_rfl) (by kernel_rfl) (fun _ _ _ h => h) (Or.inr ⟨by kernel_rfl, rfl⟩) (by assumption) ?_; (try simp only [Act.put]); (try simp only [List.getElem_toArray]); (try simp only [List.getElem_cons_succ]); (try simp only [List.getElem_cons_zero]); (try simp only [List.setIfInBounds_toArray]); (try simp only [List.set_cons_succ]); (try simp only [List.set_cons_zero]))
          (refine wpAnyH_take (i := 9) (v := undef) rfl (by kernel_rfl) (by kernel_rfl) (by kernel_rfl) (fun _ _ _ h => h) (Or.inr ⟨by kernel_rfl, rfl⟩) (by assumption) ?_; (try simp only [Act.put]); (try simp only [List.getElem_toArray]); (try simp only [List.getElem_cons_succ]); (try simp only [List.getElem_cons_zero]); (try simp only [List.setIfInBounds_toArray]); (try simp only [List.set_cons_succ]); (try simp only [List.set_cons_zero]))
          (refine wpAnyH_take (i := 10) (v := undef) rfl (by kernel_rfl) (by kernel_rfl) (by kernel_rfl) (fun _ _ _ h => h) (Or.inr ⟨by kernel_rfl, rfl⟩) (by assumption) ?_; (try simp only [Act.put]); (try simp only [List.getElem_toArray]); (try simp only [List.getElem_cons_succ]); (try simp only [List.getElem_cons_zero]); (try simp only [List.setIfInBounds_toArray]); (try simp only [List.set_cons_succ]); (try simp only [List.set_cons_zero]))
          (refine wpAnyH_take (i := 11) (v := undef) rfl (by kernel_rfl) (by kernel_rfl) (by kernel_rfl) (fun _ _ _ h => h) (Or.inr ⟨by kernel_rfl, rfl⟩) (by assumption) ?_; (try simp only [Act.put]); (try simp only [List.getElem_toArray]); (try simp only [List.getElem_cons_succ]); (try simp only [List.getElem_cons_zero]); (try simp only [List.setIfInBounds_toArray]); (try simp only [List.set_cons_succ]); (try simp only [List.set_cons_zero]))
          (refine wpAnyH_take (i := 12) (v := undef) rfl (by kernel_rfl) (by kernel_rfl) (by kernel_rfl) (fun _ _ _ h => h) (Or.inr ⟨by kernel_rfl, rfl⟩) (by assumption) ?_; (try simp only [Act.put]); (try simp only [List.getElem_toArray]); (try simp only [List.getElem_cons_succ]); (try simp only [List.getElem_cons_zero]); (try simp only [List.setIfInBounds_toArray]); (try simp only [List.set_cons_succ]); (try simp only [List.set_cons_zero]))
          (refine wpAnyH_take (i := 13) (v := undef) rfl (by kernel_rfl) (by kernel_rfl) (by kernel_rfl) (fun _ _ _ h => h) (Or.inr ⟨by kernel_rfl, rfl⟩) (by assumption) ?_; (try simp only [Act.put]); (try simp only [List.getElem_toArray]); (try simp only [List.getElem_cons_succ]); (try simp only [List.getElem_cons_zero]); (try simp only [List.setIfInBounds_toArray]); (try simp only [List.set_cons_succ]); (try simp only [List.set_cons_zero]))
          (refine wpAnyH_take (i := 14) (v := undef) rfl (by kernel_rfl) (by kernel_rfl) (by kernel_rfl) (fun _ _ _ h => h) (Or.inr ⟨by kernel_rfl, rfl⟩) (by assumption) ?_; (try simp only [Act.put]); (try simp only [List.getElem_toArray]); (try simp only [List.getElem_cons_succ]); (try simp only [List.getElem_cons_zero]); (try simp only [List.setIfInBounds_toArray]); (try simp only [List.set_cons_succ]); (try simp only [List.set_cons_zero]))
          (refine wpAnyH_take (i := 15) (v := ?_) rfl (by kernel_rfl) (by kernel_rfl) (by kernel_rfl) (fun _ _ _ h => h) (Or.inl ⟨by kernel_rfl, ?_⟩) (by assumption) ?_; rotate_left; · (intro w hSw; (try dsimp only at hSw); go_simp; first | done | with_reducible rfl))
          (try simp only [Act.put]); (try simp only [List.getElem_toArray]); (try simp only [List.getElem_cons_succ]); (try simp only [List.getElem_cons_zero]); (try simp only [List.setIfInBounds_toArray]); (try simp only [List.set_cons_succ]); (try simp only [List.set_cons_zero])
          (refine wpAnyH_take (i := 16) (v := ?_) rfl (by kernel_rfl) (by kernel_rfl) (by kernel_rfl) (fun _ _ _ h => h) (Or.inl ⟨by kernel_rfl, ?_⟩) (by assumption) ?_; rotate_left; · (intro w hSw; (try dsimp only at hSw); go_simp; first | done | with_reducible rfl))
          (try simp only [Act.put]); (try simp only [List.getElem_toArray]); (try simp only [List.getElem_cons_succ]); (try simp only [List.getElem_cons_zero]); (try simp only [List.setIfInBounds_toArray]); (try simp only [List.set_cons_succ]); (try simp only [List.set_cons_zero])
          refine wpAnyH_done (by kernel_rfl) ?_ _
          have HB2 := hid (HB1.out.trans (hHeld.1.out.1.mono HB1.out.size))
          clear hHeld HT
          clear y0 y1 y2 y3 y4 y5 y6 y7
          go_wp2
          go_roundw
          case rel => exact ⟨1, by omega, by go_num, HB2.out, HIn.out⟩
          case measure => simp [intOf]; omega
        | succ k =>
          have hkm : k < l.length := by omega
          obtain ⟨x, hx⟩ : ∃ x, l[k]? = some x := ⟨_, List.getElem?_eq_getElem hkm⟩
          obtain ⟨o, ho⟩ : ∃ o, CT.cmp x y = o := ⟨_, rfl⟩
          have HOx := hid (HOr.out x y)
          rw [ho] at HOx
          have HGe : Hid (¬ o < 0 → R = k + 1) := fun q => beg_stop HI.out hy (by rw [hok, show prvL l (k + 1) = some x from hx]; show decide (CT.cmp x y < 0) = false; rw [ho]; exact decide_eq_false q)
          have HLt : Hid (o < 0 → R = k + 1 + 1 + begN CT.cmp CT.ok (prvL l (k + 1 + 1)) (l.drop (k + 1 + 1))) := fun q => beg_go HI.out hy (by rw [hok, show prvL l (k + 1) = some x from hx]; show decide (CT.cmp x y < 0) = true; rw [ho]; exact decide_eq_true q)
          have hltz : (k : Int) + 1 < (m : Int) := by omega
          have hltp : (0 : Int) < (k : Int) + 1 := by omega
          have hge : (0 : Int) ≤ (k : Int) + 1 := by omega
          have htn : ((k : Int) + 1).toNat = k + 1 := by omega
          have hwj : IntKind.i64.wrap (k : Int) = (k : Int) := by rw [IntKind.wrap_i64]; omega
          have hwj1 : IntKind.i64.wrap ((k : Int) + 1 - 1) = (k : Int) := by rw [IntKind.wrap_i64]; omega
          have hjm : (k : Int) < (m : Int) := by omega
          have HPx : Hid (∀ W, Below w.heap.size w W → _) := fun W hW => ct_words (hhc.below hW hbw) k hx
          have HBw : Hid (b < w.heap.size) := hbw
          obtain ⟨y0, y1, y2, y3, y4, y5, y6, y7⟩ := ct_words (hhc.below HB.out hbw) (k + 1) hy
          clear hhc hy hx him hkm hlt hok HRy0 ho hbw
          go_upto_region 4 with (fail)
          clear y0 y1 y2 y3 y4 y5 y6 y7
          have HX0 := hid (And.intro (And.intro (Blk.new wr 28 y.e.toArray) (below_new wr (.cells #[.string y.r, .string y.f, .string y.q, .int .i64 y.t, .int .i64 y.k, .int .i64 y.vk, .int .i64 y.vn, .string y.s] 28))) (World.size_alloc wr (.cells #[.string y.r, .string y.f, .string y.q, .int .i64 y.t, .int .i64 y.k, .int .i64 y.vk, .int .i64 y.vn, .string y.s] 28)))
          obtain ⟨W1, hW1⟩ : ∃ W, wr.alloc (.cells #[.string y.r, .string y.f, .string y.q, .int .i64 y.t, .int .i64 y.k, .int .i64 y.vk, .int .i64 y.vn, .string y.s] 28) = W := ⟨_, rfl⟩
          have HX1 : Hid ((DW W1 wr.heap.size y ∧ Below wr.heap.size wr W1) ∧ W1.heap.size = wr.heap.size + 1) := by rw [← hW1]; exact HX0.out
          rw [hW1]
          have HB1 := hid (HB.out.trans (HX1.out.1.2.mono HB.out.size))
          obtain ⟨cb, hcb⟩ : ∃ cb, wr.heap.size = cb := ⟨_, rfl⟩
          have HXc : Hid (DW W1 cb y ∧ cb < W1.heap.size) := ⟨by rw [← hcb]; exact HX1.out.1.1, by rw [← hcb, HX1.out.2]; omega⟩
          rw [hcb]
          have HT : Hid (PaX W1 b (off + k * 8) cb 0 x y W1) := ⟨hid ⟨Below.refl _ _, Nat.lt_of_lt_of_le HBw.out HB1.out.size, HXc.out.2⟩, HPx.out W1 HB1.out, HXc.out.1.words⟩
          obtain ⟨-, ⟨x0, x1, x2, x3, x4, x5, x6, x7⟩, ⟨y0, y1, y2, y3, y4, y5, y6, y7⟩⟩ := HT.out
          clear hW1 hcb HX0 HX1
          by_cases ho : o < 0
          · have hno : ¬ (0 : Int) ≤ o := by omega
            have HL2 := hid (HLt.out ho)
            go_region_held3 (fun W' => Hid (Below W1.heap.size W1 W' ∧ b < W1.heap.size ∧ cb < W1.heap.size) ∧ (W'.cell? ⟨b, off + k * 8, none⟩ = some (.string x.r) ∧ W'.cell? ⟨b, off + k * 8 + 1, none⟩ = some (.string x.f) ∧ W'.cell? ⟨b, off + k * 8 + 2, none⟩ = some (.string x.q) ∧ W'.cell? ⟨b, off + k * 8 + 3, none⟩ = some (.int .i64 x.t) ∧ W'.cell? ⟨b, off + k * 8 + 4, none⟩ = some (.int .i64 x.k) ∧ W'.cell? ⟨b, off + k * 8 + 5, none⟩ = some (.int .i64 x.vk) ∧ W'.cell? ⟨b, off + k * 8 + 6, none⟩ = some (.int .i64 x.vn) ∧ W'.cell? ⟨b, off + k * 8 + 7, none⟩ = some (.string x.s)) ∧ (W'.cell? ⟨cb, 0, none⟩ = some (.string y.r) ∧ W'.cell? ⟨cb, 1, none⟩ = some (.string y.f) ∧ W'.cell? ⟨cb, 2, none⟩ = some (.string y.q) ∧ W'.cell? ⟨cb, 3, none⟩ = some (.int .i64 y.t) ∧ W'.cell? ⟨cb, 4, none⟩ = some (.int .i64 y.k) ∧ W'.cell? ⟨cb, 5, none⟩ = some (.int .i64 y.vk) ∧ W'.cell? ⟨cb, 6, none⟩ = some (.int .i64 y.vn) ∧ W'.cell? ⟨cb, 7, none⟩ = some (.string y.s)))
              (first | exact HT.out | exact pax_drew HT.out | exact pax_call (by assumption) hb3 | exact pax_drew (by assumption) | assumption)
              (first | (go_at_call 80; refine (HRy.out _ (HB1.out.trans ((Below.refl _ W1).drew.mono HB1.out.size))).mono ?_; rintro e w3 ⟨rfl, hb3⟩) | (go_at_call 78; refine (HOx.out _).mono ?_; rintro e w3 ⟨rfl, hb3⟩))
            rename_i hLast
            have HZ3 := hid (HB1.out.trans (hLast.1.out.1.mono HB1.out.size))
            clear hLast HT x0 x1 x2 x3 x4 x5 x6 x7 y0 y1 y2 y3 y4 y5 y6 y7
            go_wp2
            go_roundw
            case rel => exact ⟨k + 1 + 1, by omega, by go_num, HZ3.out, HL2.out⟩
            case measure => simp [intOf]; omega
          · have hno : (0 : Int) ≤ o := by omega
            have HRk := hid (HGe.out ho)
            go_region_held3 (fun W' => Hid (Below W1.heap.size W1 W' ∧ b < W1.heap.size ∧ cb < W1.heap.size) ∧ (W'.cell? ⟨b, off + k * 8, none⟩ = some (.string x.r) ∧ W'.cell? ⟨b, off + k * 8 + 1, none⟩ = some (.string x.f) ∧ W'.cell? ⟨b, off + k * 8 + 2, none⟩ = some (.string x.q) ∧ W'.cell? ⟨b, off + k * 8 + 3, none⟩ = some (.int .i64 x.t) ∧ W'.cell? ⟨b, off + k * 8 + 4, none⟩ = some (.int .i64 x.k) ∧ W'.cell? ⟨b, off + k * 8 + 5, none⟩ = some (.int .i64 x.vk) ∧ W'.cell? ⟨b, off + k * 8 + 6, none⟩ = some (.int .i64 x.vn) ∧ W'.cell? ⟨b, off + k * 8 + 7, none⟩ = some (.string x.s)) ∧ (W'.cell? ⟨cb, 0, none⟩ = some (.string y.r) ∧ W'.cell? ⟨cb, 1, none⟩ = some (.string y.f) ∧ W'.cell? ⟨cb, 2, none⟩ = some (.string y.q) ∧ W'.cell? ⟨cb, 3, none⟩ = some (.int .i64 y.t) ∧ W'.cell? ⟨cb, 4, none⟩ = some (.int .i64 y.k) ∧ W'.cell? ⟨cb, 5, none⟩ = some (.int .i64 y.vk) ∧ W'.cell? ⟨cb, 6, none⟩ = some (.int .i64 y.vn) ∧ W'.cell? ⟨cb, 7, none⟩ = some (.string y.s)))
              (first | exact HT.out | exact pax_drew HT.out | exact pax_call (by assumption) hb3 | exact pax_drew (by assumption) | assumption)
              (first | (go_at_call 80; refine (HRy.out _ (HB1.out.trans ((Below.refl _ W1).drew.mono HB1.out.size))).mono ?_; rintro e w3 ⟨rfl, hb3⟩) | (go_at_call 78; refine (HOx.out _).mono ?_; rintro e w3 ⟨rfl, hb3⟩))
            rename_i hLast
            have HZ3 := hid (HB1.out.trans (hLast.1.out.1.mono HB1.out.size))
            clear hLast HT x0 x1 x2 x3 x4 x5 x6 x7 y0 y1 y2 y3 y4 y5 y6 y7
            go_wp2
            go_ret
            exact ⟨by rw [HRk.out]; go_num, HZ3.out⟩
    · obtain rfl : i = m := by omega
      have HRm : Hid (R = i) := by
        have := HI.out
        rw [← HM.out, List.drop_length] at this
        show R = i
        rw [← HM.out]
        exact this
      go_wp2
      go_ret
      exact ⟨by rw [HRm.out]; rfl, HB.out⟩
end Go.Proofs.YtgfkobfkncpmoaaDoor
