/- slices.BinarySearchFunc over cells by codec.Order. Conditions: the cells rise, one at least; not more than memory bears. -/
import Derived.Test.YtgfkobfkncpmoaaDoorMgJ
import Derived.Test.YtgfkobfkncpmoaaDoorNO
import Derived.Deep.RegionHeld3
import Derived.RegionTactic
namespace Go.Proofs.YtgfkobfkncpmoaaDoor
open Go.RowKit

/-- What BinarySearchFunc answers. -/
def BsE (l : List CT) (c : CT) (w : World) (e : Ending) (w' : World) : Prop := ∃ (m : Nat) (b : Bool), e = .returned (.tuple #[.int .i64 (m : Int), .bool b]) ∧ m ≤ l.length ∧ (∀ (k : Nat) (x : CT), l[k]? = some x → (k < m ↔ CT.cmp x c < 0)) ∧ Below w.heap.size w w'
set_option maxRecDepth 100000 in
set_option maxHeartbeats 16000000 in
theorem bsearch_any {v : Value} {a0 : CT} {t0 : List CT} (c : CT) (w : World) (h : ClA w v (a0 :: t0)) (hs : (a0 :: t0).Pairwise fun a b => CT.cmp a b < 0) (hl : t0.length ≤ 1000000000000000) :
    Calls Tryd.prog 130 #[v, c.v, .func (.func 78) #[] #[]] w fun e w' => BsE (a0 :: t0) c w e w' := by
  have mixed : Tryd.prog.follows .mixedOrders = true := by kernel_rfl
  obtain ⟨b1, o1, c1, rfl, q1, q2, hc1⟩ := cla_words h
  obtain ⟨l, hl0⟩ : ∃ l, a0 :: t0 = l := ⟨_, rfl⟩
  obtain ⟨n, hn⟩ : ∃ n, t0.length + 1 = n := ⟨_, rfl⟩
  have hln : l.length = n := by rw [← hl0, ← hn]; rfl
  rw [hl0] at hs hc1 ⊢
  rw [hn] at q1 ⊢
  have hnb : n ≤ 1000000000000001 := by omega
  have HL := hid hln
  have HC := hid hc1
  have HS : Hid (∀ i j x y, l[i]? = some x → l[j]? = some y → i ≤ j → CT.cmp y c < 0 → CT.cmp x c < 0) := fun i j x y hx hy hij h2 => by
    rcases Nat.lt_or_ge i j with q | q
    · have hj : j < l.length := by
        rcases Nat.lt_or_ge j l.length with q | q
        · exact q
        · rw [List.getElem?_eq_none q] at hy; cases hy
      have hi : i < l.length := by omega
      rw [List.getElem?_eq_getElem hi] at hx
      rw [List.getElem?_eq_getElem hj] at hy
      cases hx
      cases hy
      have := List.pairwise_iff_getElem.1 hs i j hi hj q
      exact ct_c3.lt_le this (Int.le_of_lt h2)
    · have e9 : i = j := Nat.le_antisymm hij q
      subst e9
      rw [hx] at hy
      cases hy
      exact h2
  have h0 : 0 < l.length := by rw [← hl0]; simp
  have hb1 := hc1.lt h0
  clear h hs hl0 hn hl h0
  go_enter Tryd.func130, Tryd.ntmps130
  go_upto_region 3 with (fail)
  refine wp_lt9 (fun W => Hid (Below w.heap.size w W ∧ Blk W w.heap.size 28 c.e.toArray)) ⟨below_new w _, Blk.new w _ _⟩ ?_
  rintro W0 HW0
  go_loopw [9, 10] (fun vi vj wr => ∃ i j : Nat, i ≤ j ∧ j ≤ n ∧ vi = .int .i64 i ∧ vj = .int .i64 j ∧ Hid ((∀ k x, l[k]? = some x → k < i → CT.cmp x c < 0) ∧ (∀ k x, l[k]? = some x → j ≤ k → 0 ≤ CT.cmp x c)) ∧ Hid (Below w.heap.size w wr ∧ Blk wr w.heap.size 28 c.e.toArray)) (fun vi vj _ => (intOf vj).toNat - (intOf vi).toNat)
  case atStart => exact ⟨0, n, Nat.zero_le _, Nat.le_refl _, rfl, rfl, ⟨fun k x _ hk => by omega, fun k x hx hk => by rw [List.getElem?_eq_none (by rw [HL.out]; exact hk)] at hx; cases hx⟩, HW0.out⟩
  case round =>
    clear HW0
    obtain ⟨i, j, hij, hjn, rfl, rfl, HQ, HB⟩ := hrel
    have y0 : wr.cell? ⟨w.heap.size, 0, none⟩ = some (.string c.r) := HB.out.2.cell 0
    have y1 : wr.cell? ⟨w.heap.size, 1, none⟩ = some (.string c.f) := HB.out.2.cell 1
    have y2 : wr.cell? ⟨w.heap.size, 2, none⟩ = some (.string c.q) := HB.out.2.cell 2
    have y3 : wr.cell? ⟨w.heap.size, 3, none⟩ = some (.int .i64 c.t) := HB.out.2.cell 3
    have y4 : wr.cell? ⟨w.heap.size, 4, none⟩ = some (.int .i64 c.k) := HB.out.2.cell 4
    have y5 : wr.cell? ⟨w.heap.size, 5, none⟩ = some (.int .i64 c.vk) := HB.out.2.cell 5
    have y6 : wr.cell? ⟨w.heap.size, 6, none⟩ = some (.int .i64 c.vn) := HB.out.2.cell 6
    have y7 : wr.cell? ⟨w.heap.size, 7, none⟩ = some (.string c.s) := HB.out.2.cell 7
    by_cases hlt : i < j
    · have hltz : (i : Int) < (j : Int) := by omega
      obtain ⟨s, hs⟩ : ∃ s, i + j = s := ⟨_, rfl⟩
      obtain ⟨h, hh⟩ : ∃ h, s / 2 = h := ⟨_, rfl⟩
      have hz1 : (i : Int) + (j : Int) = (s : Int) := by omega
      have hz2 : IntKind.i64.wrap (s : Int) = (s : Int) := by rw [IntKind.wrap_i64]; omega
      have hz3 : (s : Int) / 2 = (h : Int) := by omega
      have hih : i ≤ h := by omega
      have hhj : h < j := by omega
      have hhn : (h : Int) < (n : Int) := by omega
      have hhl : h < l.length := by rw [HL.out]; omega
      have hhw : IntKind.i64.wrap ((h : Int) + 1) = (h : Int) + 1 := by rw [IntKind.wrap_i64]; omega
      have hd := HC.out.below HB.out.1 hb1
      obtain ⟨x0, x1, x2, x3, x4, x5, x6, x7⟩ := hd.words h hhl
      obtain ⟨x, hx⟩ : ∃ x, l[h] = x := ⟨_, rfl⟩
      rw [hx] at x0 x1 x2 x3 x4 x5 x6 x7
      have hxs : l[h]? = some x := by rw [List.getElem?_eq_getElem hhl, hx]
      obtain ⟨o, ho⟩ : ∃ o, CT.cmp x c = o := ⟨_, rfl⟩
      have HO : Hid (∀ W, Calls Tryd.prog 78 #[x.v, c.v] W fun e w' => e = .returned (.int .i64 o) ∧ Below W.heap.size W w') := fun W => by rw [← ho]; exact ordc9 x c W
      have HY : Hid (o < 0 → (∀ k y, l[k]? = some y → k < h + 1 → CT.cmp y c < 0) ∧ (∀ k y, l[k]? = some y → j ≤ k → 0 ≤ CT.cmp y c)) := fun e => ⟨fun k y hy hk => HS.out k h y x hy hxs (by omega) (ho ▸ e), HQ.out.2⟩
      have HNo : Hid (0 ≤ o → (∀ k y, l[k]? = some y → k < i → CT.cmp y c < 0) ∧ (∀ k y, l[k]? = some y → h ≤ k → 0 ≤ CT.cmp y c)) := fun e => ⟨HQ.out.1, fun k y hy hk => by
        rcases Int.lt_or_le (CT.cmp y c) 0 with e2 | e2
        · have := HS.out h k x y hxs hy hk e2
          omega
        · exact e2⟩
      clear HQ hs hh hd hx hxs ho hhl
      go_upto_region 5 with (fail)
      go_region_with (go_simp; go_at_call 78; refine (HO.out _).mono ?_; rintro e w5 ⟨rfl, hb5⟩)
      all_goals (
        have hb6 : Below wr.heap.size wr w5 := (Below.refl _ wr).drew.trans hb5
        have HB6 := hid (And.intro (HB.out.1.trans (hb6.mono HB.out.1.size)) (HB.out.2.keep hb6 HB.out.2.lt))
        clear hb5 hb6 HB HO x0 x1 x2 x3 x4 x5 x6 x7 y0 y1 y2 y3 y4 y5 y6 y7
        by_cases ho1 : o < 0
        · go_wp2
          go_roundw
          case rel => exact ⟨h + 1, j, by omega, hjn, by go_num, rfl, HY.out ho1, HB6.out⟩
          case measure => simp [intOf]; omega
        · have ho2 : 0 ≤ o := by omega
          go_wp2
          go_roundw
          case rel => exact ⟨i, h, hih, by omega, rfl, by go_num, HNo.out (by omega), HB6.out⟩
          case measure => simp [intOf]; omega)
    · have e9 : i = j := Nat.le_antisymm hij (Nat.le_of_not_lt hlt)
      subst e9
      have HEnd : Hid (∀ k x, l[k]? = some x → (k < i ↔ CT.cmp x c < 0)) := fun k x hx => ⟨HQ.out.1 k x hx, fun e => by
        rcases Nat.lt_or_ge k i with q | q
        · exact q
        · exact absurd (HQ.out.2 k x hx q) (by omega)⟩
      obtain ⟨cb, hcb⟩ : ∃ cb, w.heap.size = cb := ⟨_, rfl⟩
      have HCB := hid hcb
      rw [hcb] at y0 y1 y2 y3 y4 y5 y6 y7
      by_cases hin : i < n
      · have hinz : (i : Int) < (n : Int) := by omega
        have hil : i < l.length := by rw [HL.out]; exact hin
        have hd := HC.out.below HB.out.1 hb1
        have hxs : l[i]? = some l[i] := List.getElem?_eq_getElem hil
        obtain ⟨x, hx⟩ : ∃ x, l[i] = x := ⟨_, rfl⟩
        rw [hx] at hxs
        have HT : Hid (PaX wr b1 (o1 + i * 8) cb 0 x c wr) := ⟨hid ⟨Below.refl _ _, Nat.lt_of_lt_of_le hb1 HB.out.1.size, by rw [← hcb]; exact HB.out.2.lt⟩, ct_words hd i hxs, ⟨y0, y1, y2, y3, y4, y5, y6, y7⟩⟩
        obtain ⟨-, ⟨x0, x1, x2, x3, x4, x5, x6, x7⟩, -⟩ := HT.out
        obtain ⟨o, ho⟩ : ∃ o, CT.cmp x c = o := ⟨_, rfl⟩
        have HO : Hid (∀ W, Calls Tryd.prog 78 #[x.v, c.v] W fun e w' => e = .returned (.int .i64 o) ∧ Below W.heap.size W w') := fun W => by rw [← ho]; exact ordc9 x c W
        clear HQ hd hx ho hil hxs hlt
        go_upto_region 8 with (fail)
        rw [hcb]
        clear hcb
        refine wp_region_held_drew (S := (fun W' => Hid (Below wr.heap.size wr W' ∧ b1 < wr.heap.size ∧ cb < wr.heap.size) ∧ (W'.cell? ⟨b1, o1 + i * 8, none⟩ = some (.string x.r) ∧ W'.cell? ⟨b1, o1 + i * 8 + 1, none⟩ = some (.string x.f) ∧ W'.cell? ⟨b1, o1 + i * 8 + 2, none⟩ = some (.string x.q) ∧ W'.cell? ⟨b1, o1 + i * 8 + 3, none⟩ = some (.int .i64 x.t) ∧ W'.cell? ⟨b1, o1 + i * 8 + 4, none⟩ = some (.int .i64 x.k) ∧ W'.cell? ⟨b1, o1 + i * 8 + 5, none⟩ = some (.int .i64 x.vk) ∧ W'.cell? ⟨b1, o1 + i * 8 + 6, none⟩ = some (.int .i64 x.vn) ∧ W'.cell? ⟨b1, o1 + i * 8 + 7, none⟩ = some (.string x.s)) ∧ (W'.cell? ⟨cb, 0, none⟩ = some (.string c.r) ∧ W'.cell? ⟨cb, 1, none⟩ = some (.string c.f) ∧ W'.cell? ⟨cb, 2, none⟩ = some (.string c.q) ∧ W'.cell? ⟨cb, 3, none⟩ = some (.int .i64 c.t) ∧ W'.cell? ⟨cb, 4, none⟩ = some (.int .i64 c.k) ∧ W'.cell? ⟨cb, 5, none⟩ = some (.int .i64 c.vk) ∧ W'.cell? ⟨cb, 6, none⟩ = some (.int .i64 c.vn) ∧ W'.cell? ⟨cb, 7, none⟩ = some (.string c.s)))) (by kernel_rfl) ?_ (fun hHeld => ?_)
        (exact pax_drew HT.out)
        (refine wpAnyH_take (i := 0) (v := ?_) rfl (by kernel_rfl) (by kernel_rfl) (by kernel_rfl) (fun _ _ _ h => h) (Or.inl ⟨by kernel_rfl, ?_⟩) (by assumption) ?_; rotate_left; · (intro w hSw; (try dsimp only at hSw); go_simp; first | done | with_reducible rfl))
        (try simp only [Act.put]); (try simp only [List.getElem_toArray]); (try simp only [List.getElem_cons_succ]); (try simp only [List.getElem_cons_zero]); (try simp only [List.setIfInBounds_toArray]); (try simp only [List.set_cons_succ]); (try simp only [List.set_cons_zero])
        (refine wpAnyH_take (i := 1) (v := ?_) rfl (by kernel_rfl) (by kernel_rfl) (by kernel_rfl) (fun _ _ _ h => h) (Or.inl ⟨by kernel_rfl, ?_⟩) (by assumption) ?_; rotate_left; · (intro w hSw; (try dsimp only at hSw); go_simp; first | done | with_reducible rfl))
        (try simp only [Act.put]); (try simp only [List.getElem_toArray]); (try simp only [List.getElem_cons_succ]); (try simp only [List.getElem_cons_zero]); (try simp only [List.setIfInBounds_toArray]); (try simp only [List.set_cons_succ]); (try simp only [List.set_cons_zero])
        (refine wpAnyH_take (i := 2) (v := ?_) rfl (by kernel_rfl) (by kernel_rfl) (by kernel_rfl) (fun _ _ _ h => h) (Or.inl ⟨by kernel_rfl, ?_⟩) (by assumption) ?_; rotate_left; · (intro w hSw; (try dsimp only at hSw); go_simp; first | done | with_reducible rfl))
        (try simp only [Act.put]); (try simp only [List.getElem_toArray]); (try simp only [List.getElem_cons_succ]); (try simp only [List.getElem_cons_zero]); (try simp only [List.setIfInBounds_toArray]); (try simp only [List.set_cons_succ]); (try simp only [List.set_cons_zero])
        (refine wpAnyH_take (i := 3) (v := ?_) rfl (by kernel_rfl) (by kernel_rfl) (by kernel_rfl) (fun _ _ _ h => h) (Or.inl ⟨by kernel_rfl, ?_⟩) (by assumption) ?_; rotate_left; · (intro w hSw; (try dsimp only at hSw); go_simp; first | done | with_reducible rfl))
        (try simp only [Act.put]); (try simp only [List.getElem_toArray]); (try simp only [List.getElem_cons_succ]); (try simp only [List.getElem_cons_zero]); (try simp only [List.setIfInBounds_toArray]); (try simp only [List.set_cons_succ]); (try simp only [List.set_cons_zero])
        (refine wpAnyH_take (i := 4) (v := ?_) rfl (by kernel_rfl) (by kernel_rfl) (by kernel_rfl) (fun _ _ _ h => h) (Or.inl ⟨by kernel_rfl, ?_⟩) (by assumption) ?_; rotate_left; · (intro w hSw; (try dsimp only at hSw); go_simp; first | done | with_reducible rfl))
        (try simp only [Act.put]); (try simp only [List.getElem_toArray]); (try simp only [List.getElem_cons_succ]); (try simp only [List.getElem_cons_zero]); (try simp only [List.setIfInBounds_toArray]); (try simp only [List.set_cons_succ]); (try simp only [List.set_cons_zero])
        (refine wpAnyH_take (i := 5) (v := ?_) rfl (by kernel_rfl) (by kernel_rfl) (by kernel_rfl) (fun _ _ _ h => h) (Or.inl ⟨by kernel_rfl, ?_⟩) (by assumption) ?_; rotate_left; · (intro w hSw; (try dsimp only at hSw); go_simp; first | done | with_reducible rfl))
        (try simp only [Act.put]); (try simp only [List.getElem_toArray]); (try simp only [List.getElem_cons_succ]); (try simp only [List.getElem_cons_zero]); (try simp only [List.setIfInBounds_toArray]); (try simp only [List.set_cons_succ]); (try simp only [List.set_cons_zero])
        (refine wpAnyH_take (i := 6) (v := ?_) rfl (by kernel_rfl) (by kernel_rfl) (by kernel_rfl) (fun _ _ _ h => h) (Or.inl ⟨by kernel_rfl, ?_⟩) (by assumption) ?_; rotate_left; · (intro w hSw; (try dsimp only at hSw); go_simp; first | done | with_reducible rfl))
        (try simp only [Act.put]); (try simp only [List.getElem_toArray]); (try simp only [List.getElem_cons_succ]); (try simp only [List.getElem_cons_zero]); (try simp only [List.setIfInBounds_toArray]); (try simp only [List.set_cons_succ]); (try simp only [List.set_cons_zero])
        (refine wpAnyH_take (i := 7) (v := ?_) rfl (by kernel_rfl) (by kernel_rfl) (by kernel_rfl) (fun _ _ _ h => h) (Or.inl ⟨by kernel_rfl, ?_⟩) (by assumption) ?_; rotate_left; · (intro w hSw; (try dsimp only at hSw); go_simp; first | done | with_reducible rfl))
        (try simp only [Act.put]); (try simp only [List.getElem_toArray]); (try simp only [List.getElem_cons_succ]); (try simp only [List.getElem_cons_zero]); (try simp only [List.setIfInBounds_toArray]); (try simp only [List.set_cons_succ]); (try simp only [List.set_cons_zero])
        (refine wpAnyH_take (i := 8) (v := ?_) rfl (by kernel_rfl) (by kernel_rfl) (by kernel_rfl) (fun _ _ _ h => h) (Or.inl ⟨by kernel_rfl, ?_⟩) (by assumption) ?_; rotate_left; · (intro w hSw; (try dsimp only at hSw); go_simp; first | done | with_reducible rfl))
        (try simp only [Act.put]); (try simp only [List.getElem_toArray]); (try simp only [List.getElem_cons_succ]); (try simp only [List.getElem_cons_zero]); (try simp only [List.setIfInBounds_toArray]); (try simp only [List.set_cons_succ]); (try simp only [List.set_cons_zero])
        (refine wpAnyH_take (i := 9) (v := ?_) rfl (by kernel_rfl) (by kernel_rfl) (by kernel_rfl) (fun _ _ _ h => h) (Or.inl ⟨by kernel_rfl, ?_⟩) (by assumption) ?_; rotate_left; · (intro w hSw; (try dsimp only at hSw); go_simp; first | done | with_reducible rfl))
        (try simp only [Act.put]); (try simp only [List.getElem_toArray]); (try simp only [List.getElem_cons_succ]); (try simp only [List.getElem_cons_zero]); (try simp only [List.setIfInBounds_toArray]); (try simp only [List.set_cons_succ]); (try simp only [List.set_cons_zero])
        (refine wpAnyH_take (i := 10) (v := ?_) rfl (by kernel_rfl) (by kernel_rfl) (by kernel_rfl) (fun _ _ _ h => h) (Or.inl ⟨by kernel_rfl, ?_⟩) (by assumption) ?_; rotate_left; · (intro w hSw; (try dsimp only at hSw); go_simp; first | done | with_reducible rfl))
        (try simp only [Act.put]); (try simp only [List.getElem_toArray]); (try simp only [List.getElem_cons_succ]); (try simp only [List.getElem_cons_zero]); (try simp only [List.setIfInBounds_toArray]); (try simp only [List.set_cons_succ]); (try simp only [List.set_cons_zero])
        (refine wpAnyH_ready (rs := [11]) (by kernel_rfl) (by simp) (AllReadyH.cons rfl (fun K hK => ?_) AllReadyH.nil); go_simp; (go_at_call 78; refine (HO.out _).mono ?_; rintro e w5 ⟨rfl, hb5⟩); refine hK.out _ _ ?_ (fun hHeld => ?_))
        · exact pax_call (by assumption) hb5
        clear hK K
        (try simp only [Act.put]); (try simp only [List.getElem_toArray]); (try simp only [List.getElem_cons_succ]); (try simp only [List.getElem_cons_zero]); (try simp only [List.setIfInBounds_toArray]); (try simp only [List.set_cons_succ]); (try simp only [List.set_cons_zero])
        (refine wpAnyH_take (i := 12) (v := ?_) rfl (by kernel_rfl) (by kernel_rfl) (by kernel_rfl) (fun _ _ _ h => h) (Or.inl ⟨by kernel_rfl, ?_⟩) (by assumption) ?_; rotate_left; · (intro w hSw; (try dsimp only at hSw); go_simp; first | done | with_reducible rfl))
        (try simp only [Act.put]); (try simp only [List.getElem_toArray]); (try simp only [List.getElem_cons_succ]); (try simp only [List.getElem_cons_zero]); (try simp only [List.setIfInBounds_toArray]); (try simp only [List.set_cons_succ]); (try simp only [List.set_cons_zero])
        (refine wpAnyH_take (i := 13) (v := ?_) rfl (by kernel_rfl) (by kernel_rfl) (by kernel_rfl) (fun _ _ _ h => h) (Or.inl ⟨by kernel_rfl, ?_⟩) (by assumption) ?_; rotate_left; · (intro w hSw; (try dsimp only at hSw); go_simp; first | done | with_reducible rfl))
        (try simp only [Act.put]); (try simp only [List.getElem_toArray]); (try simp only [List.getElem_cons_succ]); (try simp only [List.getElem_cons_zero]); (try simp only [List.setIfInBounds_toArray]); (try simp only [List.set_cons_succ]); (try simp only [List.set_cons_zero])
        (refine wpAnyH_take (i := 14) (v := ?_) rfl (by kernel_rfl) (by kernel_rfl) (by kernel_rfl) (fun _ _ _ h => h) (Or.inl ⟨by kernel_rfl, ?_⟩) (by assumption) ?_; rotate_left; · (intro w hSw; (try dsimp only at hSw); go_simp; first | done | with_reducible rfl))
        (try simp only [Act.put]); (try simp only [List.getElem_toArray]); (try simp only [List.getElem_cons_succ]); (try simp only [List.getElem_cons_zero]); (try simp only [List.setIfInBounds_toArray]); (try simp only [List.set_cons_succ]); (try simp only [List.set_cons_zero])
        (refine wpAnyH_take (i := 15) (v := ?_) rfl (by kernel_rfl) (by kernel_rfl) (by kernel_rfl) (fun _ _ _ h => h) (Or.inl ⟨by kernel_rfl, ?_⟩) (by assumption) ?_; rotate_left; · (intro w hSw; (try dsimp only at hSw); go_simp; first | done | with_reducible rfl))
        (try simp only [Act.put]); (try simp only [List.getElem_toArray]); (try simp only [List.getElem_cons_succ]); (try simp only [List.getElem_cons_zero]); (try simp only [List.setIfInBounds_toArray]); (try simp only [List.set_cons_succ]); (try simp only [List.set_cons_zero])
        refine wpAnyH_done (by kernel_rfl) ?_ _
        have HB2 := hid (HB.out.1.trans (hHeld.1.out.1.mono HB.out.1.size))
        clear hHeld HT
        clear x0 x1 x2 x3 x4 x5 x6 x7 y0 y1 y2 y3 y4 y5 y6 y7
        go_wp2
        go_ret2
        exact ⟨i, _, rfl, by rw [HL.out]; exact hjn, HEnd.out, HB2.out⟩
      · have hinz : ¬ (i : Int) < (n : Int) := by omega
        clear HQ hlt y0 y1 y2 y3 y4 y5 y6 y7
        go_upto_region 8 with (fail)
        refine wp_region_held_drew (S := (fun W' => Hid (Below wr.heap.size wr W'))) (by kernel_rfl) ?_ (fun hHeld => ?_)
        (exact hid (Below.refl _ wr).drew)
        (refine wpAnyH_take (i := 0) (v := ?_) rfl (by kernel_rfl) (by kernel_rfl) (by kernel_rfl) (fun _ _ _ h => h) (Or.inl ⟨by kernel_rfl, ?_⟩) (by assumption) ?_; rotate_left; · (intro w hSw; (try dsimp only at hSw); go_simp; first | done | with_reducible rfl))
        (try simp only [Act.put]); (try simp only [List.getElem_toArray]); (try simp only [List.getElem_cons_succ]); (try simp only [List.getElem_cons_zero]); (try simp only [List.setIfInBounds_toArray]); (try simp only [List.set_cons_succ]); (try simp only [List.set_cons_zero])
        (refine wpAnyH_take (i := 1) (v := ?_) rfl (by kernel_rfl) (by kernel_rfl) (by kernel_rfl) (fun _ _ _ h => h) (Or.inl ⟨by kernel_rfl, ?_⟩) (by assumption) ?_; rotate_left; · (intro w hSw; (try dsimp only at hSw); go_simp; first | done | with_reducible rfl))
        (try simp only [Act.put]); (try simp only [List.getElem_toArray]); (try simp only [List.getElem_cons_succ]); (try simp only [List.getElem_cons_zero]); (try simp only [List.setIfInBounds_toArray]); (try simp only [List.set_cons_succ]); (try simp only [List.set_cons_zero])
        (refine wpAnyH_take (i := 2) (v := ?_) rfl (by kernel_rfl) (by kernel_rfl) (by kernel_rfl) (fun _ _ _ h => h) (Or.inl ⟨by kernel_rfl, ?_⟩) (by assumption) ?_; rotate_left; · (intro w hSw; (try dsimp only at hSw); go_simp; first | done | with_reducible rfl))
        (try simp only [Act.put]); (try simp only [List.getElem_toArray]); (try simp only [List.getElem_cons_succ]); (try simp only [List.getElem_cons_zero]); (try simp only [List.setIfInBounds_toArray]); (try simp only [List.set_cons_succ]); (try simp only [List.set_cons_zero])
        (refine wpAnyH_take (i := 3) (v := ?_) rfl (by kernel_rfl) (by kernel_rfl) (by kernel_rfl) (fun _ _ _ h => h) (Or.inl ⟨by kernel_rfl, ?_⟩) (by assumption) ?_; rotate_left; · (intro w hSw; (try dsimp only at hSw); go_simp; first | done | with_reducible rfl))
        (try simp only [Act.put]); (try simp only [List.getElem_toArray]); (try simp only [List.getElem_cons_succ]); (try simp only [List.getElem_cons_zero]); (try simp only [List.setIfInBounds_toArray]); (try simp only [List.set_cons_succ]); (try simp only [List.set_cons_zero])
        (refine wpAnyH_take (i := 4) (v := ?_) rfl (by kernel_rfl) (by kernel_rfl) (by kernel_rfl) (fun _ _ _ h => h) (Or.inl ⟨by kernel_rfl, ?_⟩) (by assumption) ?_; rotate_left; · (intro w hSw; (try dsimp only at hSw); go_simp; first | done | with_reducible rfl))
        (try simp only [Act.put]); (try simp only [List.getElem_toArray]); (try simp only [List.getElem_cons_succ]); (try simp only [List.getElem_cons_zero]); (try simp only [List.setIfInBounds_toArray]); (try simp only [List.set_cons_succ]); (try simp only [List.set_cons_zero])
        (refine wpAnyH_take (i := 5) (v := undef) rfl (by kernel_rfl) (by kernel_rfl) (by kernel_rfl) (fun _ _ _ h => h) (Or.inr ⟨by kernel_rfl, rfl⟩) (by assumption) ?_; (try simp only [Act.put]); (try simp only [List.getElem_toArray]); (try simp only [List.getElem_cons_succ]); (try simp only [List.getElem_cons_zero]); (try simp only [List.setIfInBounds_toArray]); (try simp only [List.set_cons_succ]); (try simp only [List.set_cons_zero]))
        (refine wpAnyH_take (i := 6) (v := undef) rfl (by kernel_rfl) (by kernel_rfl) (by kernel_rfl) (fun _ _ _ h => h) (Or.inr ⟨by kernel_rfl, rfl⟩) (by assumption) ?_; (try simp only [Act.put]); (try simp only [List.getElem_toArray]); (try simp only [List.getElem_cons_succ]); (try simp only [List.getElem_cons_zero]); (try simp only [List.setIfInBounds_toArray]); (try simp only [List.set_cons_succ]); (try simp only [List.set_cons_zero]))
        (refine wpAnyH_take (i := 7) (v := undef) rfl (by kernel_rfl) (by kernel_rfl) (by kernel_rfl) (fun _ _ _ h => h) (Or.inr ⟨by kernel_rfl, rfl⟩) (by assumption) ?_; (try simp only [Act.put]); (try simp only [List.getElem_toArray]); (try simp only [List.getElem_cons_succ]); (try simp only [List.getElem_cons_zero]); (try simp only [List.setIfInBounds_toArray]); (try simp only [List.set_cons_succ]); (try simp only [List.set_cons_zero]))
        (refine wpAnyH_take (i := 8) (v := undef) rfl (by kernel_rfl) (by kernel_rfl) (by kernel_rfl) (fun _ _ _ h => h) (Or.inr ⟨by kernel_rfl, rfl⟩) (by assumption) ?_; (try simp only [Act.put]); (try simp only [List.getElem_toArray]); (try simp only [List.getElem_cons_succ]); (try simp only [List.getElem_cons_zero]); (try simp only [List.setIfInBounds_toArray]); (try simp only [List.set_cons_succ]); (try simp only [List.set_cons_zero]))
        (refine wpAnyH_take (i := 9) (v := undef) rfl (by kernel_rfl) (by kernel_rfl) (by kernel_rfl) (fun _ _ _ h => h) (Or.inr ⟨by kernel_rfl, rfl⟩) (by assumption) ?_; (try simp only [Act.put]); (try simp only [List.getElem_toArray]); (try simp only [List.getElem_cons_succ]); (try simp only [List.getElem_cons_zero]); (try simp only [List.setIfInBounds_toArray]); (try simp only [List.set_cons_succ]); (try simp only [List.set_cons_zero]))
        (refine wpAnyH_take (i := 10) (v := undef) rfl (by kernel_rfl) (by kernel_rfl) (by kernel_rfl) (fun _ _ _ h => h) (Or.inr ⟨by kernel_rfl, rfl⟩) (by assumption) ?_; (try simp only [Act.put]); (try simp only [List.getElem_toArray]); (try simp only [List.getElem_cons_succ]); (try simp only [List.getElem_cons_zero]); (try simp only [List.setIfInBounds_toArray]); (try simp only [List.set_cons_succ]); (try simp only [List.set_cons_zero]))
        (refine wpAnyH_take (i := 11) (v := undef) rfl (by kernel_rfl) (by kernel_rfl) (by kernel_rfl) (fun _ _ _ h => h) (Or.inr ⟨by kernel_rfl, rfl⟩) (by assumption) ?_; (try simp only [Act.put]); (try simp only [List.getElem_toArray]); (try simp only [List.getElem_cons_succ]); (try simp only [List.getElem_cons_zero]); (try simp only [List.setIfInBounds_toArray]); (try simp only [List.set_cons_succ]); (try simp only [List.set_cons_zero]))
        (refine wpAnyH_take (i := 12) (v := undef) rfl (by kernel_rfl) (by kernel_rfl) (by kernel_rfl) (fun _ _ _ h => h) (Or.inr ⟨by kernel_rfl, rfl⟩) (by assumption) ?_; (try simp only [Act.put]); (try simp only [List.getElem_toArray]); (try simp only [List.getElem_cons_succ]); (try simp only [List.getElem_cons_zero]); (try simp only [List.setIfInBounds_toArray]); (try simp only [List.set_cons_succ]); (try simp only [List.set_cons_zero]))
        (refine wpAnyH_take (i := 13) (v := ?_) rfl (by kernel_rfl) (by kernel_rfl) (by kernel_rfl) (fun _ _ _ h => h) (Or.inl ⟨by kernel_rfl, ?_⟩) (by assumption) ?_; rotate_left; · (intro w hSw; (try dsimp only at hSw); go_simp; first | done | with_reducible rfl))
        (try simp only [Act.put]); (try simp only [List.getElem_toArray]); (try simp only [List.getElem_cons_succ]); (try simp only [List.getElem_cons_zero]); (try simp only [List.setIfInBounds_toArray]); (try simp only [List.set_cons_succ]); (try simp only [List.set_cons_zero])
        (refine wpAnyH_take (i := 14) (v := ?_) rfl (by kernel_rfl) (by kernel_rfl) (by kernel_rfl) (fun _ _ _ h => h) (Or.inl ⟨by kernel_rfl, ?_⟩) (by assumption) ?_; rotate_left; · (intro w hSw; (try dsimp only at hSw); go_simp; first | done | with_reducible rfl))
        (try simp only [Act.put]); (try simp only [List.getElem_toArray]); (try simp only [List.getElem_cons_succ]); (try simp only [List.getElem_cons_zero]); (try simp only [List.setIfInBounds_toArray]); (try simp only [List.set_cons_succ]); (try simp only [List.set_cons_zero])
        (refine wpAnyH_take (i := 15) (v := ?_) rfl (by kernel_rfl) (by kernel_rfl) (by kernel_rfl) (fun _ _ _ h => h) (Or.inl ⟨by kernel_rfl, ?_⟩) (by assumption) ?_; rotate_left; · (intro w hSw; (try dsimp only at hSw); go_simp; first | done | with_reducible rfl))
        (try simp only [Act.put]); (try simp only [List.getElem_toArray]); (try simp only [List.getElem_cons_succ]); (try simp only [List.getElem_cons_zero]); (try simp only [List.setIfInBounds_toArray]); (try simp only [List.set_cons_succ]); (try simp only [List.set_cons_zero])
        refine wpAnyH_done (by kernel_rfl) ?_ _
        have HB2 := hid (HB.out.1.trans (hHeld.out.mono HB.out.1.size))
        clear hHeld
        go_wp2
        go_ret2
        exact ⟨i, _, rfl, by rw [HL.out]; exact hjn, HEnd.out, HB2.out⟩
end Go.Proofs.YtgfkobfkncpmoaaDoor
