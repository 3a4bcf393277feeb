/- merge.New: a merger of runs of its own. Conditions: those of over; the texts are no longer than any are. -/
import Derived.Test.YtgfkobfkncpmoaaDoorMgR
namespace Go.Proofs.YtgfkobfkncpmoaaDoor
open Go.RowKit

theorem flatX_set1 (v : Value) : ∀ (l : List Mx) (i : Nat) (x : Mx), l[i]? = some x → flatX (l.set i ⟨v, x.r⟩) = (flatX l).set (i * 2) v
  | a :: t, 0, x, h => by cases h; rfl
  | a :: t, i + 1, x, h => by
    show encX a ++ flatX (t.set i ⟨v, x.r⟩) = (encX a ++ flatX t).set ((i + 1) * 2) v
    rw [flatX_set1 v t i x h, List.set_append_right _ _ (by show 2 ≤ _; omega), show (i + 1) * 2 - (encX a).length = i * 2 by show _ - 2 = _; omega]
theorem crow_lt {W : World} {B : Nat} {v : Value} {l : List CT} (h : CRow W B v l) : ∀ b, v.ownBlock = some b → B ≤ b ∧ b < W.heap.size := fun b hb => World.ownsRow.lt h b hb
theorem set_same9 {α : Type} : ∀ (l : List α) (i : Nat) (a : α), l[i]? = some a → l.set i a = l
  | b :: t, 0, a, h => by cases h; rfl
  | b :: t, i + 1, a, h => by rw [List.set_cons_succ, set_same9 t i a h]
/-- One run has cells of its own. -/
theorem MAg.reown {W W5 : World} {B mb g cap C n i : Nat} {l : List Mx} {x : Mx} (h : MAg W B mb g cap C l n) (hx : l[i]? = some x) (hb : Below W.heap.size W W5) {v : Value} (hr : CRow W5 W.heap.size v x.r.cs) (hC : C ≤ W.heap.size) :
    MAg (W5.setCell ⟨g, i * 2, none⟩ v) B mb g cap W5.heap.size (l.set i ⟨v, x.r⟩) n := by
  have h5 := h.below hb
  have hz := hb.size
  have hgl := h.row.lt
  have hml := h.blk.lt
  have hs : ∀ k, k ≠ g → (W5.setCell ⟨g, i * 2, none⟩ v).heap[k]? = W5.heap[k]? := fun k q => Below.heap_setCell _ _ _ _ fun e => q e
  have hp := h5.row.put (i * 2) v (l.set i ⟨v, x.r⟩) (by rw [List.length_set]) (flatX_set1 v l i x hx)
  refine ⟨h.lo, h.lg, h.ne, ?_, hp, fun y hy => ?_, fun y hy b hb2 => ?_⟩
  · rw [List.length_set]
    exact h5.blk.stay9 (hs mb (Ne.symm h.ne))
  · rcases List.mem_or_eq_of_mem_set hy with hy | rfl
    · exact (h5.cl y hy).stay9 fun b hb2 _ => hs b (h.ap y hy b hb2).2.1
    · exact (hr.cla).stay9 fun b hb2 _ => hs b (by have := (crow_lt hr b hb2).1; omega)
  · rcases List.mem_or_eq_of_mem_set hy with hy | rfl
    · have := h.ap y hy b hb2
      exact ⟨this.1, this.2.1, by omega⟩
    · have := crow_lt hr b hb2
      exact ⟨by omega, by omega, this.2⟩
theorem MAg.wide {W : World} {B mb g cap C C' n : Nat} {l : List Mx} (h : MAg W B mb g cap C l n) (hC : C ≤ C') : MAg W B mb g cap C' l n :=
  ⟨h.lo, h.lg, h.ne, h.blk, h.row, h.cl, fun x hx b hb => by have := h.ap x hx b hb; exact ⟨this.1, this.2.1, by omega⟩⟩
/-- What a round reads. -/
abbrev NwS (rb mb g p cap o : Nat) (u : Value) (W : World) : Prop := W.cell? ⟨mb, 0, none⟩ = some (.slice (some ⟨g, 0, none⟩) p cap) ∧ W.cell? ⟨rb, 0, none⟩ = some u ∧ W.cell? ⟨g, o, none⟩ = some u ∧ W.frozen? ⟨g, o, none⟩ = false
theorem nws_below {W W' : World} {rb mb g p cap o : Nat} {u : Value} (h : NwS rb mb g p cap o u W) (hb : Below W.heap.size W W') : NwS rb mb g p cap o u W' := by
  obtain ⟨h0, h1, h2, h3⟩ := h
  exact ⟨(hb.cell (p := ⟨mb, 0, none⟩) (cell_lt h0)).trans h0, (hb.cell (p := ⟨rb, 0, none⟩) (cell_lt h1)).trans h1, (hb.cell (p := ⟨g, o, none⟩) (cell_lt h2)).trans h2, (World.frozen?_of_block (a := ⟨g, o, none⟩) (hb.block g (cell_lt h2))).trans h3⟩
def NwE (w : World) (H : List (Rn CT)) (e : Ending) (w' : World) : Prop := ∃ mb, e = .returned (.pointer (some ⟨mb, 0, none⟩)) ∧ Below w.heap.size w w' ∧ MgS w' w.heap.size w'.heap.size w'.heap.size mb H
/-- A cell that is as a machine bears it. -/
def OkN (c : CT) : Prop := okC c ∧ c.r.size ≤ 281474976710656 ∧ c.f.size ≤ 281474976710656 ∧ c.q.size ≤ 281474976710656 ∧ c.s.size ≤ 281474976710656

set_option maxRecDepth 100000 in
set_option maxHeartbeats 16000000 in
theorem new_any (v : Value) (rs : List (List CT)) (w : World) (h : RsA w v rs) (hs : ∀ l ∈ rs, l.length ≤ 100000 ∧ ∀ c ∈ l, OkN c) (hl : rs.length ≤ 1000) (hL : LaidU w) :
    Calls Tryd.prog 50 #[v] w fun e w' => NwE w (runsF begL 0 rs) e w' := by
  have mixed : Tryd.prog.follows .mixedOrders = true := by kernel_rfl
  have HOv := hid (over_any v rs w h (fun l hl => ⟨by have := (hs l hl).1; omega, fun c hc => ((hs l hl).2 c hc).1⟩) hl hL)
  have HRs : Hid (∀ r ∈ runsF begL 0 rs, r.cs.length ≤ 100000 ∧ ∀ c ∈ r.cs, OkN c) := fun r hr => by
    obtain ⟨j, l, h1, h2, _⟩ := (runsF_mem begL 0 rs r).1 hr
    have h3 := hs l (List.mem_of_getElem? h1)
    have h4 : r.cs = l.take (begI l) := h2.symm
    refine ⟨by rw [h4, List.length_take]; have := h3.1; omega, fun c hc => h3.2 c ?_⟩
    rw [h4] at hc
    exact List.mem_of_mem_take hc
  have HOw : Hid (∀ (u : Value) (cs : List CT), 0 < cs.length → cs.length ≤ 100000 → (∀ c ∈ cs, OkN c) → ∀ W, ClA W u cs → Calls Tryd.prog 127 #[u] W fun e w' => ∃ v', e = .returned v' ∧ CRow w' W.heap.size v' cs ∧ Below W.heap.size W w') := fun u cs h0 h1 h2 W hW => own9_any u cs h0 h1 (fun c hc => (h2 c hc).2) W hW
  have hRl : (runsF begL 0 rs).length ≤ 1000 := by
    have : ∀ (k : Nat) (a : List (List CT)), (runsF begL k a).length ≤ a.length := by
      intro k a
      induction a generalizing k with
      | nil => exact Nat.le_refl _
      | cons x t ih =>
        rw [runsF, List.length_append, List.length_cons]
        have := ih (k + 1)
        have h1 : (ofL (begL x) k).toList.length ≤ 1 := by cases ofL (begL x) k <;> simp
        omega
    have := this 0 rs
    omega
  obtain ⟨H, hH⟩ : ∃ H, runsF begL 0 rs = H := ⟨_, rfl⟩
  rw [hH] at HOv HRs hRl ⊢
  clear h hs hl hL hH
  go_enter Tryd.func50, Tryd.ntmps50
  go_upto_region 2 with (first | (go_at_call 126; refine HOv.out.mono ?_; rintro e w1 ⟨mb, rfl, hb1, hS1⟩))
  have HB1 := hid hb1
  obtain ⟨hm1, hG1, hS2⟩ := hS1
  clear hb1 HOv hG1
  rcases hS2 with ⟨rfl, v1, hA, h9⟩ | ⟨g, cap, x, l0, hg, hA, hp, hHp⟩
  · have HA := hid (And.intro hA h9)
    have HM1 := hid hm1
    obtain ⟨A1, c1, rfl⟩ := xrow_form hA.row rfl
    have m0 : w1.cell? ⟨mb, 0, none⟩ = some (.slice A1 0 c1) := hA.blk.cell 0
    clear hA hm1 h9
    go_wp2
    refine wp_loop_rounds 1 ?_
    rw [rounds_succ]; go_wp2
    go_ret
    exact ⟨mb, rfl, HB1.out, HM1.out, Nat.le_refl _, .inl ⟨rfl, _, HA.out.1, HA.out.2⟩⟩
  · obtain ⟨N, hN⟩ : ∃ N, cntR ((x :: l0).map Mx.r) = N := ⟨_, rfl⟩
    obtain ⟨R, hR⟩ : ∃ R, (x :: l0).map Mx.r = R := ⟨_, rfl⟩
    obtain ⟨p, hpl⟩ : ∃ p, (x :: l0).length = p := ⟨_, rfl⟩
    have HN := hid hN
    rw [hR] at hp hHp HN
    have HP := hid (And.intro hp hHp)
    have HR : Hid (∀ r ∈ R, r.cs.length ≤ 100000 ∧ ∀ c ∈ r.cs, OkN c) := fun r hr => HRs.out r (hp.mem_iff.1 hr)
    have hpb : p ≤ 1000 := by rw [← hpl, ← List.length_map (f := Mx.r), hR, hp.length_eq]; exact hRl
    have HI0 : Hid ((x :: l0).length = p ∧ (x :: l0).map Mx.r = R ∧ MAg w1 w.heap.size mb g cap w1.heap.size (x :: l0) N) := ⟨hpl, hR, by rw [← hN]; exact hA.wide HB1.out.size⟩
    have hp0 : 0 < p := by rw [← hpl]; simp
    have m0 : w1.cell? ⟨mb, 0, none⟩ = some (.slice (some ⟨g, 0, none⟩) p cap) := by rw [← hpl]; exact hA.blk.cell 0
    clear hN hR hpl hp hHp hA hm1 hg HRs hRl
    obtain ⟨L0, hL0⟩ : ∃ L, x :: l0 = L := ⟨_, rfl⟩
    rw [hL0] at HI0
    clear hL0
    go_wp2
    clear m0
    go_loopw [13] (fun vi wr => ∃ (i : Nat) (l : List Mx), i ≤ p ∧ vi = .int .i64 i ∧ Hid (l.length = p ∧ l.map Mx.r = R ∧ MAg wr w.heap.size mb g cap wr.heap.size l N) ∧ Hid (Below w.heap.size w wr)) (fun vi _ => p - (intOf vi).toNat)
    case atStart => exact ⟨0, L0, Nat.zero_le _, rfl, HI0.out, HB1.out⟩
    case round =>
      clear HI0
      obtain ⟨i, l, hi, rfl, HI, HB⟩ := hrel
      by_cases hlt : i < p
      · have hltz : (i : Int) < (p : Int) := by omega
        have hil : i < l.length := by rw [HI.out.1]; exact hlt
        obtain ⟨x, hx⟩ : ∃ x, l[i]? = some x := ⟨_, List.getElem?_eq_getElem hil⟩
        have HX := hid hx
        have hxe : l[i] = x := by rw [List.getElem?_eq_getElem hil] at hx; exact Option.some.inj hx
        have hxm : x ∈ l := List.mem_of_getElem? hx
        have hw2 := HI.out.2.2.row.words i hil
        rw [hxe] at hw2
        obtain ⟨r0, r1⟩ := hw2
        have HCl := hid (HI.out.2.2.cl x hxm)
        have HOx : Hid (∀ W, ClA W x.u x.r.cs → Calls Tryd.prog 127 #[x.u] W fun e w' => ∃ v', e = .returned v' ∧ CRow w' W.heap.size v' x.r.cs ∧ Below W.heap.size W w') := by
          have h1 : x.r ∈ R := by rw [← HI.out.2.1]; exact List.mem_map_of_mem hxm
          have h2 := HR.out x.r h1
          exact HOw.out x.u x.r.cs (by show 0 < _ + 1; omega) h2.1 h2.2
        have hfr : wr.frozen? ⟨g, i * 2, none⟩ = false := HI.out.2.2.row.free (i * 2)
        have m0 : wr.cell? ⟨mb, 0, none⟩ = some (.slice (some ⟨g, 0, none⟩) p cap) := by
          have := HI.out.2.2.blk.cell 0
          rw [HI.out.1] at this
          exact this
        obtain ⟨u, hu⟩ : ∃ u, x.u = u := ⟨_, rfl⟩
        obtain ⟨cs, hcs⟩ : ∃ cs, x.r.cs = cs := ⟨_, rfl⟩
        have HUe := hid (And.intro hu hcs)
        rw [hu, hcs] at HCl HOx
        rw [hu] at r0
        obtain ⟨xi, hxi⟩ : ∃ xi, x.r.i = xi := ⟨_, rfl⟩
        rw [hxi] at r1
        have huf : ∃ A n c, u = .slice A n c := by
          obtain ⟨A, c, e, _⟩ := HCl.out
          exact ⟨A, _, c, e⟩
        obtain ⟨Au, nu, cu, rfl⟩ := huf
        have HS0 : Hid (NwS wr.heap.size mb g p cap (i * 2) (.slice Au nu cu) (wr.alloc (.cells #[.slice Au nu cu, .int .i64 (xi : Int)] 145))) := by
          have hb := below_new wr (.cells #[.slice Au nu cu, .int .i64 (xi : Int)] 145)
          exact ⟨(hb.cell (p := ⟨mb, 0, none⟩) (cell_lt m0)).trans m0, (Blk.new wr 145 #[.slice Au nu cu, .int .i64 (xi : Int)]).cell 0, (hb.cell (p := ⟨g, i * 2, none⟩) (cell_lt r0)).trans r0, (World.frozen?_of_block (a := ⟨g, i * 2, none⟩) (hb.block g (cell_lt r0))).trans hfr⟩
        have HBn : Hid (Below wr.heap.size wr (wr.alloc (.cells #[.slice Au nu cu, .int .i64 (xi : Int)] 145))) := below_new wr _
        clear hx hxe hxm hu hcs hxi hfr hil
        go_upto_region 5 with (fail)
        obtain ⟨rb, hrb⟩ : ∃ rb, wr.heap.size = rb := ⟨_, rfl⟩
        obtain ⟨W1, hW1⟩ : ∃ W, wr.alloc (.cells #[.slice Au nu cu, .int .i64 (xi : Int)] 145) = W := ⟨_, rfl⟩
        have HCw : Hid (ClA W1 (.slice Au nu cu) cs) := by rw [← hW1]; exact HCl.out.below HBn.out
        rw [hW1] at HBn HS0 ⊢
        have HSz : Hid (wr.heap.size ≤ W1.heap.size) := HBn.out.size
        have HSr : Hid (NwS rb mb g p cap (i * 2) (.slice Au nu cu) W1) := by rw [← hrb]; exact HS0.out
        rw [hrb]
        clear hrb hW1 HS0 m0 r0 r1
        refine wp_region_till 10 (NwS rb mb g p cap (i * 2) (.slice Au nu cu)) (by kernel_rfl) (nws_below HSr.out (Below.refl _ _).drew) (fun hHeld => ?_)
        (refine wpAnyT_take (i := 0) (v := ?_) rfl (by kernel_rfl) (fun _ _ _ h => h) (Or.inl ⟨by kernel_rfl, ?_⟩) (by assumption) ?_; rotate_left; · (intro w hSw; (try dsimp only at hSw); go_split_ands; go_simp; first | done | with_reducible rfl))
        (try simp only [Act.put]); (try simp only [List.getElem_toArray]); (try simp only [List.getElem_cons_succ]); (try simp only [List.getElem_cons_zero]); (try simp only [List.setIfInBounds_toArray]); (try simp only [List.set_cons_succ]); (try simp only [List.set_cons_zero])
        (refine wpAnyT_take (i := 1) (v := ?_) rfl (by kernel_rfl) (fun _ _ _ h => h) (Or.inl ⟨by kernel_rfl, ?_⟩) (by assumption) ?_; rotate_left; · (intro w hSw; (try dsimp only at hSw); go_split_ands; go_simp; first | done | with_reducible rfl))
        (try simp only [Act.put]); (try simp only [List.getElem_toArray]); (try simp only [List.getElem_cons_succ]); (try simp only [List.getElem_cons_zero]); (try simp only [List.setIfInBounds_toArray]); (try simp only [List.set_cons_succ]); (try simp only [List.set_cons_zero])
        (refine wpAnyT_take (i := 2) (v := ?_) rfl (by kernel_rfl) (fun _ _ _ h => h) (Or.inl ⟨by kernel_rfl, ?_⟩) (by assumption) ?_; rotate_left; · (intro w hSw; (try dsimp only at hSw); go_split_ands; go_simp; first | done | with_reducible rfl))
        (try simp only [Act.put]); (try simp only [List.getElem_toArray]); (try simp only [List.getElem_cons_succ]); (try simp only [List.getElem_cons_zero]); (try simp only [List.setIfInBounds_toArray]); (try simp only [List.set_cons_succ]); (try simp only [List.set_cons_zero])
        (refine wpAnyT_take (i := 3) (v := ?_) rfl (by kernel_rfl) (fun _ _ _ h => h) (Or.inl ⟨by kernel_rfl, ?_⟩) (by assumption) ?_; rotate_left; · (intro w hSw; (try dsimp only at hSw); go_split_ands; go_simp; first | done | with_reducible rfl))
        (try simp only [Act.put]); (try simp only [List.getElem_toArray]); (try simp only [List.getElem_cons_succ]); (try simp only [List.getElem_cons_zero]); (try simp only [List.setIfInBounds_toArray]); (try simp only [List.set_cons_succ]); (try simp only [List.set_cons_zero])
        (refine wpAnyT_take (i := 4) (v := ?_) rfl (by kernel_rfl) (fun _ _ _ h => h) (Or.inl ⟨by kernel_rfl, ?_⟩) (by assumption) ?_; rotate_left; · (intro w hSw; (try dsimp only at hSw); go_split_ands; go_simp; first | done | with_reducible rfl))
        (try simp only [Act.put]); (try simp only [List.getElem_toArray]); (try simp only [List.getElem_cons_succ]); (try simp only [List.getElem_cons_zero]); (try simp only [List.setIfInBounds_toArray]); (try simp only [List.set_cons_succ]); (try simp only [List.set_cons_zero])
        (refine wpAnyT_take (i := 5) (v := ?_) rfl (by kernel_rfl) (fun _ _ _ h => h) (Or.inl ⟨by kernel_rfl, ?_⟩) (by assumption) ?_; rotate_left; · (intro w hSw; (try dsimp only at hSw); go_split_ands; go_simp; first | done | with_reducible rfl))
        (try simp only [Act.put]); (try simp only [List.getElem_toArray]); (try simp only [List.getElem_cons_succ]); (try simp only [List.getElem_cons_zero]); (try simp only [List.setIfInBounds_toArray]); (try simp only [List.set_cons_succ]); (try simp only [List.set_cons_zero])
        (refine wpAnyT_take (i := 6) (v := ?_) rfl (by kernel_rfl) (fun _ _ _ h => h) (Or.inl ⟨by kernel_rfl, ?_⟩) (by assumption) ?_; rotate_left; · (intro w hSw; (try dsimp only at hSw); go_split_ands; go_simp; first | done | with_reducible rfl))
        (try simp only [Act.put]); (try simp only [List.getElem_toArray]); (try simp only [List.getElem_cons_succ]); (try simp only [List.getElem_cons_zero]); (try simp only [List.setIfInBounds_toArray]); (try simp only [List.set_cons_succ]); (try simp only [List.set_cons_zero])
        (refine wpAnyT_one (i := 7) (by kernel_rfl) rfl (fun K hK => ?_); go_simp; (go_at_call 127; refine (HOx.out _ (HCw.out.below (Below.refl _ W1).drew)).mono ?_; rintro e w5 ⟨v5, rfl, hr5, hb5⟩; obtain ⟨A5, c5, rfl, -⟩ := hr5.len; have HD5 := hid (And.intro hr5 hb5)); refine hK.out _ _ (.inr ?_) (fun hHeld => ?_))
        · exact nws_below hHeld hb5
        replace hHeld := hHeld.resolve_left (by decide)
        clear hK K
        (try simp only [Act.put]); (try simp only [List.getElem_toArray]); (try simp only [List.getElem_cons_succ]); (try simp only [List.getElem_cons_zero]); (try simp only [List.setIfInBounds_toArray]); (try simp only [List.set_cons_succ]); (try simp only [List.set_cons_zero])
        clear hr5 hb5
        (refine wpAnyT_one (i := 8) (by kernel_rfl) rfl (fun K hK => ?_); go_simp; refine hK.out _ _ (.inr ?_) (fun hHeld => ?_))
        · exact hHeld
        replace hHeld := hHeld.resolve_left (by decide)
        clear hK K
        (try simp only [Act.put]); (try simp only [List.getElem_toArray]); (try simp only [List.getElem_cons_succ]); (try simp only [List.getElem_cons_zero]); (try simp only [List.setIfInBounds_toArray]); (try simp only [List.set_cons_succ]); (try simp only [List.set_cons_zero])
        (refine wpAnyT_one (i := 9) (by kernel_rfl) rfl (fun K hK => ?_); go_simp; refine hK.out _ _ (.inr ?_) (fun hHeld => ?_))
        · exact hHeld
        replace hHeld := hHeld.resolve_left (by decide)
        clear hK K
        (try simp only [Act.put]); (try simp only [List.getElem_toArray]); (try simp only [List.getElem_cons_succ]); (try simp only [List.getElem_cons_zero]); (try simp only [List.setIfInBounds_toArray]); (try simp only [List.set_cons_succ]); (try simp only [List.set_cons_zero])
        (refine wpAnyT_one (i := 10) (by kernel_rfl) rfl (fun K hK => ?_); obtain ⟨q0, q1, q2, q3⟩ := hHeld; go_simp; refine hK.out _ _ (.inl rfl) (fun _ => ?_))
        clear hK K
        (try simp only [Act.put]); (try simp only [List.getElem_toArray]); (try simp only [List.getElem_cons_succ]); (try simp only [List.getElem_cons_zero]); (try simp only [List.setIfInBounds_toArray]); (try simp only [List.set_cons_succ]); (try simp only [List.set_cons_zero])
        refine wpAnyT_done (by kernel_rfl) ?_ _
        have hE : ((l.set i ⟨.slice A5 cs.length c5, x.r⟩).length = p ∧ (l.set i ⟨.slice A5 cs.length c5, x.r⟩).map Mx.r = R ∧ MAg (w5.setCell ⟨g, i * 2, none⟩ (.slice A5 cs.length c5)) w.heap.size mb g cap (w5.setCell ⟨g, i * 2, none⟩ (.slice A5 cs.length c5)).heap.size (l.set i ⟨.slice A5 cs.length c5, x.r⟩) N) ∧ Below w.heap.size w (w5.setCell ⟨g, i * 2, none⟩ (.slice A5 cs.length c5)) := by
          have hb9 := (HBn.out.trans ((Below.refl _ W1).drew.mono HBn.out.size)).trans (HD5.out.2.mono (show wr.heap.size ≤ W1.drew.heap.size from HBn.out.size))
          have hr9 := HD5.out.1.le (show wr.heap.size ≤ W1.drew.heap.size from HBn.out.size)
          have hM := HI.out.2.2.reown HX.out hb9 (v := .slice A5 cs.length c5) (by rw [HUe.out.2]; exact hr9) (Nat.le_refl _)
          refine ⟨⟨by rw [List.length_set]; exact HI.out.1, ?_, by rw [show (w5.setCell ⟨g, i * 2, none⟩ (.slice A5 cs.length c5)).heap.size = w5.heap.size by simp [World.setCell]]; exact hM⟩, (HB.out.trans (hb9.mono HB.out.size)).trans ⟨rfl, rfl, rfl, by simp [World.setCell], fun k hk => Below.heap_setCell _ _ _ _ fun e => by have := HI.out.2.2.lg; simp only at e; omega⟩⟩
          rw [List.map_set, HI.out.2.1]
          refine set_same9 _ _ _ ?_
          rw [← HI.out.2.1, List.getElem?_map, HX.out]
          rfl
        have HZ := hid hE
        clear hE
        go_wp2
        go_roundw
        case rel => exact ⟨i + 1, _, by omega, by go_num, HZ.out.1, HZ.out.2⟩
        case measure => simp [intOf]; omega
      · obtain rfl : i = p := by omega
        have HZ : Hid (NwE w H (.returned (.pointer (some ⟨mb, 0, none⟩))) wr) := by
          refine ⟨mb, rfl, HB.out, ?_⟩
          have hM := HI.out.2.2
          rw [← HN.out, ← HI.out.2.1] at hM
          exact mgs_of hM (by rw [HI.out.2.1]; exact HP.out.1) (by rw [HI.out.2.1]; exact HP.out.2) hM.row.lt hM.blk.lt (Nat.le_refl _)
        go_wp2
        go_ret
        exact HZ.out
end Go.Proofs.YtgfkobfkncpmoaaDoor
