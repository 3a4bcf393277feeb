/- Append of ints to a row of the call's own; joistref00.CopyInts, slices.Grow and Concat of two at ints. Conditions: the slices hold their ints, a million together at most. -/
import Derived.Test.YtofkfafdodhmdaaGreatDoorNB
import Derived.Laws.MakeOwn
import Derived.LoopN
import Derived.Deep.AppendSrc
import Derived.Lib.AppendZeros
namespace Go.Proofs.YtofkfafdodhmdaaGreatDoor
open Go.RowKit

theorem run_append_noint (w : World) (B : Nat) (v : Value) (zs : List Int) (h : IRow w B v zs) (c : Nat) : (Builtin.append_ #[22, 22] 22 #[v, .slice none 0 c]).run Tryz.prog w = .ok v w := by
  obtain ⟨i0, hi, hz0, hz1, hz2⟩ := info_parts info_int
  obtain ⟨h1, h2⟩ := h
  rcases h2 with ⟨rfl, h0⟩ | ⟨g, cap, cur, rfl, hB, hh, hn, hm, hs, ht⟩
  · have h1 := run_underlying (P := Tryz.prog) Tryz.underlying22
    have hlen : (Builtin.lenOf (.slice none 0 c)).run Tryz.prog w = .ok 0 w := rfl
    simp [Builtin.append_, h1, sizeOf, typeInfo, hi, Builtin.firstCells, hlen]
  · have := run_append_room_src (P := Tryz.prog) (w := w) 22 22 22 3 i0 Tryz.underlying22 hi g 0 zs.length cap (.slice none 0 c) 0 [] (Src.ofNil w Tryz.underlying22 c) (by omega) (fun j hj => absurd hj (by simp)) (fun j hj => absurd hj (by simp))
    rw [this]
    rfl

section
variable {ops : Array Oper} {rest : List Oper} {o : Oper} {a : Act} {Q : Exit → Act → World → Prop}
theorem wpList_append_ints (hgd : o.guard = Option.none) (s x : Operand)
    (ho : o.op = .call { callee := .builtin .append, args := #[s, x], argTypes := #[22, 22] }) (hty : o.type = 22)
    (w : World) (base : Nat) (v : Value) (zs : List Int) (hs : a.eval s = v) (hown : IRow w base v zs)
    (A : Option Addr) (c : Nat) (news : List Int) (hx : a.eval x = .slice A news.length c) (hnews : HoldsIA w A news)
    (hlen : zs.length + news.length ≤ 1000000) (hbase : base ≤ w.heap.size)
    (h : ∀ v' w', IRow w' base v' (zs ++ news) → Below base w w' → w.grownBy w' v.ownBlock → wpList Tryz.prog ops Q rest (a.put o.dst v') w') : wpList Tryz.prog ops Q (o :: rest) a w := by
  obtain ⟨i0, hi, hz0, hz1, hz2⟩ := info_parts info_int
  by_cases h0 : 0 < news.length
  · obtain ⟨b, off, rfl, hh⟩ := hnews h0
    refine wpList_append_own w hgd s x 22 ho base 3 i0 (.int .i64 0) 1 8 Tryz.underlying22 hi hz0 hz1 hz2 rfl (by decide) v zs.length (zs.map (Value.int .i64)) hs hown ⟨b, off, Option.none⟩ news.length c (news.map (Value.int .i64)) hx (by rw [List.length_map]; omega) (fun j u hu => ?_) ?_ (by unfold maxLen; omega) (by omega) hbase ?_
    · have hj : j < news.length := by
        rcases Nat.lt_or_ge j news.length with h1 | h1
        · exact h1
        · rw [List.getElem?_map, List.getElem?_eq_none h1] at hu; cases hu
      rw [add_zero_off, hh j hj, ← hu, List.getElem?_map, List.getD_eq_getElem?_getD, List.getElem?_eq_getElem hj]
      rfl
    · intro e he
      obtain ⟨z, _, rfl⟩ := List.mem_map.1 he
      rfl
    · intro v' w' h1 h2 _
      refine h v' w' ?_ ((Below.refl _ _).grown h2 hbase fun k hk => (World.ownsRow.lt hown k hk).1) h2
      unfold IRow
      rw [List.length_append, List.map_append]
      exact h1
  · have : news = [] := List.eq_nil_of_length_eq_zero (by omega)
    subst this
    match A, hx with
    | some ad, hx =>
      refine wpList_append_own w hgd s x 22 ho base 3 i0 (.int .i64 0) 1 8 Tryz.underlying22 hi hz0 hz1 hz2 rfl (by decide) v zs.length (zs.map (Value.int .i64)) hs hown ad 0 c [] hx (by simp) (fun j u hu => by simp at hu) (fun e he => by cases he) (by unfold maxLen; omega) (by omega) hbase ?_
      intro v' w' h1 h2 _
      refine h v' w' ?_ ((Below.refl _ _).grown h2 hbase fun k hk => (World.ownsRow.lt hown k hk).1) h2
      unfold IRow
      rw [List.append_nil]
      simpa using h1
    | none, hx =>
      refine Lib.wpList_append_run w hgd s x 22 22 ho v _ hs hx v w ?_ (h v w (by rwa [List.append_nil]) (Below.refl _ _) ⟨rfl, rfl, rfl, Nat.le_refl _, fun _ _ _ => rfl⟩)
      rw [hty]
      exact run_append_noint w base v zs hown c
end

theorem SlA.grown {w w' : World} {v : Value} {l : List UInt8} {r : Option Nat} (h : SlA w v l) (hg : w.grownBy w' r) (hn : ∀ k, v.ownBlock = some k → r ≠ some k) : SlA w' v l := by
  obtain ⟨A, c, rfl, h1, h2, h3, h4⟩ := h
  refine ⟨A, c, rfl, h1, h2, fun h0 => ?_, h4⟩
  obtain ⟨b, off, rfl, hh⟩ := h3 h0
  refine ⟨b, off, rfl, fun i hi => ?_⟩
  rw [World.cell?_of_block (w := w) (hg.block b (hh.lt h0) fun e => hn b rfl e.symm)]
  exact hh i hi
theorem SlI.holdsI {w : World} {A : Option Addr} {n c : Nat} {l : List Int} (h : SlI w (.slice A n c) l) : HoldsIA w A l := by
  obtain ⟨_, _, e1, _, _, g1, _⟩ := h
  injection e1 with e1 _ _
  subst e1
  exact g1
theorem irow_new (W : World) (B : Nat) (hB : B ≤ W.heap.size) (zs : List Int) (hl : zs.length ≤ 1000000) (cs : Array Value) (hc : cs = (zs.map (Value.int .i64)).toArray) (fr : Nat × Nat) (hf : fr = (0, 0)) : IRow (W.alloc (.cells cs 3 fr)) B (.slice (some ⟨W.heap.size, 0, Option.none⟩) zs.length zs.length) zs := by
  subst hc; subst hf
  refine ⟨by simp, .inr ⟨W.heap.size, zs.length, (zs.map (Value.int .i64)).toArray, rfl, hB, heap_alloc_new W _, Nat.le_refl _, by unfold maxLen; omega, by simp, by simp [List.take_of_length_le]⟩⟩

set_option maxHeartbeats 1000000 in
theorem copyi_any (v : Value) (zs : List Int) (hl : zs.length ≤ 1000000) (w : World) (h : SlI w v zs) :
    Calls Tryz.prog 40 #[v] w fun e w' => ∃ v', e = .returned v' ∧ IRow w' w.heap.size v' zs ∧ Below w.heap.size w w' := by
  have HS := hid h
  obtain ⟨A, c, rfl, _⟩ := h
  have HR := hid (irow_new w w.heap.size (Nat.le_refl _) [] (by simp) #[] rfl (0, 0) rfl)
  have HL := hid hl
  clear hl
  go_enter Tryz.func40, Tryz.ntmps40
  go_wp2_with (at_builtin; refine wpList_append_ints rfl (.tmp 5) (.tmp 6) rfl rfl _ w.heap.size _ [] rfl HR.out A c zs rfl (HS.out.below (below_new w _)).holdsI (by have := HL.out; simp only [List.length_nil]; omega) (by simp) ?_; intro v' w' hR' hb' _)
  go_ret
  exact ⟨_, rfl, hR', (below_new w _).trans hb'⟩

set_option maxRecDepth 100000 in
set_option maxHeartbeats 4000000 in
theorem growi_any (n : Nat) (h0 : 1 ≤ n) (hn : n ≤ 1000000) (w : World) :
    Calls Tryz.prog 74 #[.slice none 0 0, .int .i64 n] w fun e w' => ∃ v, e = .returned v ∧ IRow w' w.heap.size v [] ∧ Below w.heap.size w w' := by
  obtain ⟨i0, hi, hz0, hz1, hz2⟩ := info_parts info_int
  have happ := Lib.run_append_nil_zeros (P := Tryz.prog) w 22 3 22 3 i0 (.int .i64 0) .i64 .i64 Tryz.underlying22 Tryz.underlying3 hi hz0 n (by omega) (by omega) (by omega) (by rw [hz2]; omega)
  generalize hcap : grownCap w n 0 3 = cap2 at happ
  have hcapge : n ≤ cap2 := by rw [← hcap]; exact grownCap_ge w _ 0 3
  have hcaple : cap2 ≤ maxLen := by rw [← hcap]; exact grownCap_le_maxLen w _ 0 3 (by unfold maxLen; omega)
  generalize hZ : (Builtin.zeroCells (Value.int .i64 0).cells n ++ Builtin.zeroCells (Value.int .i64 0).cells (cap2 - n)) = Z at happ
  have hZs : Z.size = cap2 := by rw [← hZ]; simp [size_zeroCells, Value.cells]; omega
  have HR : Hid (∀ W : World, W.heap = (w.alloc (.cells Z 3)).heap → IRow W w.heap.size (.slice (some ⟨w.heap.size, 0, Option.none⟩) 0 cap2) []) := by
    intro W hW
    exact ⟨rfl, .inr ⟨w.heap.size, cap2, Z, rfl, Nat.le_refl _, by rw [hW]; exact heap_alloc_new w _, Nat.zero_le _, hcaple, by omega, by simp⟩⟩
  have hg : ¬ ((n : Int) < 0) := by omega
  clear hcap hZ hZs hi hz0 hz1 hz2
  unfold maxLen at hcaple
  go_enter Tryz.func74, Tryz.ntmps74
  go_wp2_with (at_builtin; refine Lib.wpList_append_run _ rfl (.tmp 20) (.tmp 21) _ _ rfl _ _ rfl rfl _ _ happ ?_)
  go_ret
  exact ⟨_, rfl, HR.out _ rfl, ((below_new w _).drew)⟩

/-- What the second loop of Concat stands on: the list's cells and what they hold, in any world behind. -/
structure Cat2 (w : World) (s : Nat) (A1 A2 : Option Addr) (c1 c2 : Nat) (l1 l2 : List Int) (W : World) : Prop where
  below : Below w.heap.size w W
  k1 : W.cell? ⟨s, 0, Option.none⟩ = some (.slice A1 l1.length c1)
  k2 : W.cell? ⟨s, 1, Option.none⟩ = some (.slice A2 l2.length c2)
  h1 : HoldsIA W A1 l1
  h2 : HoldsIA W A2 l2
theorem Cat2.go {w W : World} {s : Nat} {A1 A2 : Option Addr} {c1 c2 : Nat} {l1 l2 : List Int} (h0 : Cat2 w s A1 A2 c1 c2 l1 l2 w) (hb : Below w.heap.size w W) : Cat2 w s A1 A2 c1 c2 l1 l2 W :=
  ⟨hb, (hb.cell (p := ⟨s, 0, Option.none⟩) (cell_lt h0.k1)).trans h0.k1, (hb.cell (p := ⟨s, 1, Option.none⟩) (cell_lt h0.k2)).trans h0.k2, h0.h1.below hb, h0.h2.below hb⟩

set_option maxRecDepth 100000 in
set_option maxHeartbeats 4000000 in
theorem concat2 (s : Nat) (A1 A2 : Option Addr) (c1 c2 : Nat) (l1 l2 : List Int) (h0 : 0 < l1.length) (hl : l1.length + l2.length ≤ 1000000) (w : World) (h : Cat2 w s A1 A2 c1 c2 l1 l2 w) :
    Calls Tryz.prog 38 #[.slice (some ⟨s, 0, Option.none⟩) 2 2] w fun e w' => ∃ v, e = .returned v ∧ IRow w' w.heap.size v (l1 ++ l2) ∧ Below w.heap.size w w' := by
  have HH := hid h
  obtain ⟨_, k1, k2, _, _⟩ := h
  have HL := hid hl
  obtain ⟨n1, e1⟩ : ∃ n, l1.length = n := ⟨_, rfl⟩
  obtain ⟨n2, e2⟩ : ∃ n, l2.length = n := ⟨_, rfl⟩
  rw [e1] at k1; rw [e2] at k2
  have b1 : n1 ≤ 1000000 := by omega
  have b2 : n2 ≤ 1000000 := by omega
  have b4 : n1 + n2 ≤ 1000000 := by omega
  have b5 : 0 < n1 := by omega
  have E1 := hid e1; have E2 := hid e2
  have HG : Hid (∀ (W : World) (z : Int), z = (n1 : Int) + n2 → Calls Tryz.prog 74 #[.slice Option.none 0 0, .int .i64 z] W fun e w' => ∃ v, e = .returned v ∧ IRow w' W.heap.size v [] ∧ Below W.heap.size W w') := by
    intro W z hz
    have : z = ((n1 + n2 : Nat) : Int) := by omega
    rw [this]
    exact growi_any _ (by omega) (by omega) W
  clear e1 e2 hl h0
  go_enter Tryz.func38, Tryz.ntmps38
  go_wp2
  refine wp_loop_rounds 3 ?_
  rw [rounds_succ]; go_wp2
  rw [rounds_succ]; go_wp2
  rw [rounds_succ]; go_wp2_with (go_at_call 74; refine (HG.out _ _ (by omega)).mono ?_; rintro e w1 ⟨v1, rfl, hR1, hb1⟩; have HC1 := hid (HH.out.go hb1); obtain ⟨_, m1, m2, _, _⟩ := HC1.out)
  refine wp_loop_rounds 3 ?_
  rw [rounds_succ]; go_wp2_with (at_builtin; refine wpList_append_ints rfl (.tmp 31) (.tmp 32) rfl rfl _ w.heap.size _ [] rfl hR1 A1 c1 l1 rfl HC1.out.h1 (by have := HL.out; simp only [List.length_nil]; omega) HC1.out.below.size ?_; intro v2 w2 hR2 hb2 _; have HC2 := hid (HH.out.go (HC1.out.below.trans hb2)); obtain ⟨_, m1, m2, _, _⟩ := HC2.out)
  rw [rounds_succ]; go_wp2_with (at_builtin; refine wpList_append_ints rfl (.tmp 31) (.tmp 32) rfl rfl _ w.heap.size _ ([] ++ l1) rfl hR2 A2 c2 l2 rfl HC2.out.h2 (by have := HL.out; simp only [List.length_append, List.length_nil]; omega) HC2.out.below.size ?_; intro v3 w3 hR3 hb3 _; have HC3 := hid (HH.out.go (HC2.out.below.trans hb3)); obtain ⟨_, m1, m2, _, _⟩ := HC3.out)
  rw [rounds_succ]; go_wp2
  go_ret
  refine ⟨_, rfl, ?_, HC3.out.below⟩
  rw [List.nil_append] at hR3
  exact hR3
end Go.Proofs.YtofkfafdodhmdaaGreatDoor
