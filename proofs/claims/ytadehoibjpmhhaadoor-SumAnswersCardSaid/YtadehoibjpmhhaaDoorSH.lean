/- bytes.Equal, slices.Grow at nothing, slices.Concat of three slices. Conditions: the slices hold their bytes, a million together at most. -/
import Derived.Test.YtadehoibjpmhhaaDoorSG
import Derived.Laws.BytesArg
import Derived.Laws.MakeOwn
import Derived.LoopN
import Derived.Deep.AppendSrc
import Derived.Lib.AppendZeros
import Derived.Shelf.Bytes.SlSmallAll
namespace Go.Proofs.YtadehoibjpmhhaaDoor
open Go.RowKit

theorem nums_str (l : List UInt8) : strOfNums (l.map fun x => (x.toNat : Int)) = ⟨l.toArray⟩ := by
  unfold strOfNums
  congr 2
  rw [List.map_map]
  apply List.ext_getElem
  · simp
  · intro i h1 h2; simp
theorem conv_any {A : Option Addr} {c : Nat} {l : List UInt8} {w : World} (h : HoldsA w A l) : (convert 29 9 (.slice A l.length c)).run Tryd.prog w = .ok (.string ⟨l.toArray⟩) w := by
  by_cases h0 : 0 < l.length
  · obtain ⟨b, off, rfl, hh⟩ := h h0
    rw [← nums_str]
    refine run_convert_bytes_arg w 29 5 Tryd.underlying29 Tryd.underlying5 b off l.length c _ (by simp) ?_ 9 Tryd.underlying9
    intro i hi
    rw [hh i hi]
    simp [List.getD_eq_getElem?_getD, List.getElem?_eq_getElem hi]
  · have : l = [] := List.eq_nil_of_length_eq_zero (by omega)
    subst this
    exact run_convert_bytes_zero w 29 5 Tryd.underlying29 Tryd.underlying5 A c 9 Tryd.underlying9

set_option maxHeartbeats 1000000 in
theorem equal_any (A1 A2 : Option Addr) (c1 c2 : Nat) (l1 l2 : List UInt8) (w : World) (h1 : HoldsA w A1 l1) (h2 : HoldsA w A2 l2) :
    Calls Tryd.prog 108 #[.slice A1 l1.length c1, .slice A2 l2.length c2] w fun e w' => e = .returned (.bool (decide (l1 = l2))) ∧ w' = w := by
  have e1 := conv_any (c := c1) h1
  have e2 := conv_any (c := c2) h2
  have HD : Hid ((l1 == l2) = decide (l1 = l2)) := by unfold Hid; rw [Bool.eq_iff_iff]; simp
  clear h1 h2
  go_enter Tryd.func108, Tryd.ntmps108
  go_wp2
  go_ret
  rw [← HD.out]
  exact ⟨rfl, rfl⟩

/-- Nothing is appended. -/
theorem run_append_nothing (w : World) (B : Nat) (v : Value) (l : List UInt8) (h : Row w B v l) (c : Nat) : (Builtin.append_ #[29, 29] 29 #[v, .slice none 0 c]).run Tryd.prog w = .ok v w := by
  obtain ⟨i0, hi, hz0, hz1, hz2⟩ := info_parts info_u8
  obtain ⟨h1, h2⟩ := h
  rcases h2 with ⟨rfl, h0⟩ | ⟨g, cap, cur, rfl, hB, hh, hn, hm, hs, ht⟩
  · have h1 := run_underlying (P := Tryd.prog) Tryd.underlying29
    have hlen : (Builtin.lenOf (.slice none 0 c)).run Tryd.prog w = .ok 0 w := rfl
    simp [Builtin.append_, h1, sizeOf, typeInfo, hi, Builtin.firstCells, hlen]
  · have := run_append_room_src (P := Tryd.prog) (w := w) 29 29 29 5 i0 Tryd.underlying29 hi g 0 l.length cap (.slice none 0 c) 0 [] (Src.ofNil w Tryd.underlying29 c) (by omega) (fun j hj => absurd hj (by simp)) (fun j hj => absurd hj (by simp))
    rw [this]
    rfl

section
variable {ops : Array Oper} {rest : List Oper} {o : Oper} {a : Act} {Q : Exit → Act → World → Prop}
/-- append of a slice that holds some bytes, or none, to a row of the call's own. -/
theorem wpList_append_any (hgd : o.guard = Option.none) (s x : Operand)
    (ho : o.op = .call { callee := .builtin .append, args := #[s, x], argTypes := #[29, 29] }) (hty : o.type = 29)
    (w : World) (base : Nat) (v : Value) (l : List UInt8) (hs : a.eval s = v) (hown : Row w base v l)
    (A : Option Addr) (c : Nat) (news : List UInt8) (hx : a.eval x = .slice A news.length c) (hnews : HoldsA w A news)
    (hlen : l.length + news.length ≤ 1000000) (hbase : base ≤ w.heap.size)
    (h : ∀ v' w', Row w' base v' (l ++ news) → Below base w w' → wpList Tryd.prog ops Q rest (a.put o.dst v') w') : wpList Tryd.prog ops Q (o :: rest) a w := by
  match A, hx, hnews with
  | none, hx, hnews =>
    have h0 : news = [] := by
      cases news with
      | nil => rfl
      | cons y t => obtain ⟨b, off, e, _⟩ := hnews (by simp); cases e
    subst h0
    refine Lib.wpList_append_run w hgd s x 29 29 ho v _ hs hx v w ?_ (h v w (by rwa [List.append_nil]) (Below.refl _ _))
    rw [hty]
    exact run_append_nothing w base v l hown c
  | some ad, hx, hnews =>
    refine wpList_append_bytes hgd s x ho w base v l hs hown ad news.length c news rfl hx (fun j u hu => ?_) hlen hbase h
    have hj : j < news.length := by
      rcases Nat.lt_or_ge j news.length with h1 | h1
      · exact h1
      · rw [bc_at, List.getElem?_eq_none h1] at hu; cases hu
    obtain ⟨b, off, e, hh⟩ := hnews (by omega)
    cases e
    rw [add_zero_off, hh j hj, ← hu, bc_at, List.getElem?_eq_getElem hj, List.getD_eq_getElem?_getD, List.getElem?_eq_getElem hj]
    rfl
end

set_option maxRecDepth 100000 in
set_option maxHeartbeats 4000000 in
theorem grow_some (n : Nat) (h0 : 1 ≤ n) (hn : n ≤ 1000000) (w : World) :
    Calls Tryd.prog 106 #[.slice none 0 0, .int .i64 n] w fun e w' => ∃ v, e = .returned v ∧ Row w' w.heap.size v [] ∧ Below w.heap.size w w' := by
  obtain ⟨i0, hi, hz0, hz1, hz2⟩ := info_parts info_u8
  have happ := Lib.run_append_nil_zeros (P := Tryd.prog) w 29 3 29 5 i0 (.int .u8 0) .i64 .i64 Tryd.underlying29 Tryd.underlying3 hi hz0 n (by omega) (by omega) (by omega) (by rw [hz2]; omega)
  generalize hcap : grownCap w n 0 5 = cap2 at happ
  have hcapge : n ≤ cap2 := by rw [← hcap]; exact grownCap_ge w _ 0 5
  have hcaple : cap2 ≤ maxLen := by rw [← hcap]; exact grownCap_le_maxLen w _ 0 5 (by unfold maxLen; omega)
  generalize hZ : (Builtin.zeroCells (Value.int .u8 0).cells n ++ Builtin.zeroCells (Value.int .u8 0).cells (cap2 - n)) = Z at happ
  have hZs : Z.size = cap2 := by rw [← hZ]; simp [size_zeroCells, Value.cells]; omega
  have HR : Hid (∀ W : World, W.heap = (w.alloc (.cells Z 5)).heap → Row W w.heap.size (.slice (some ⟨w.heap.size, 0, none⟩) 0 cap2) []) := by
    intro W hW
    exact ⟨rfl, .inr ⟨w.heap.size, cap2, Z, rfl, Nat.le_refl _, by rw [hW]; exact heap_alloc_new w _, Nat.zero_le _, hcaple, by omega, by simp [bc]⟩⟩
  have hg : ¬ ((n : Int) < 0) := by omega
  clear hcap hZ hZs hi hz0 hz1 hz2
  unfold maxLen at hcaple
  go_enter Tryd.func106, Tryd.ntmps106
  go_wp2_with (at_builtin; refine Lib.wpList_append_run _ rfl (.tmp 20) (.tmp 21) _ _ rfl _ _ rfl rfl _ _ happ ?_)
  go_ret
  exact ⟨_, rfl, HR.out _ rfl, ((below_new w _).drew)⟩

set_option maxHeartbeats 1000000 in
theorem grow_zero (w : World) :
    Calls Tryd.prog 106 #[.slice none 0 0, .int .i64 0] w fun e w' => ∃ v, e = .returned v ∧ Row w' w.heap.size v [] ∧ Below w.heap.size w w' := by
  go_enter Tryd.func106, Tryd.ntmps106
  go_wp2
  go_ret
  exact ⟨_, rfl, Row.none _ _, Below.refl _ _⟩

theorem grow_any (z : Int) (h0 : 0 ≤ z) (h1 : z ≤ 1000000) (w : World) :
    Calls Tryd.prog 106 #[.slice none 0 0, .int .i64 z] w fun e w' => ∃ v, e = .returned v ∧ Row w' w.heap.size v [] ∧ Below w.heap.size w w' := by
  by_cases hz : z = 0
  · subst hz; exact grow_zero w
  · obtain ⟨n, rfl⟩ : ∃ n : Nat, z = n := ⟨z.toNat, by omega⟩
    exact grow_some n (by omega) (by omega) w

/-- What the second loop of Concat stands on: the list's cells and what they hold, in any world behind. -/
structure C3 (w : World) (s : Nat) (A1 A2 A3 : Option Addr) (c1 c2 c3 : Nat) (l1 l2 l3 : List UInt8) (W : World) : Prop where
  below : Below w.heap.size w W
  k1 : W.cell? ⟨s, 0, none⟩ = some (.slice A1 l1.length c1)
  k2 : W.cell? ⟨s, 1, none⟩ = some (.slice A2 l2.length c2)
  k3 : W.cell? ⟨s, 2, none⟩ = some (.slice A3 l3.length c3)
  h1 : HoldsA W A1 l1
  h2 : HoldsA W A2 l2
  h3 : HoldsA W A3 l3
theorem HoldsA.below {w w' : World} {A : Option Addr} {l : List UInt8} (h : HoldsA w A l) (hb : Below w.heap.size w w') : HoldsA w' A l := fun h0 => by
  obtain ⟨b, off, e, hh⟩ := h h0
  exact ⟨b, off, e, hh.below hb (hh.lt h0)⟩
section
variable {w W W' : World} {s : Nat} {A1 A2 A3 : Option Addr} {c1 c2 c3 : Nat} {l1 l2 l3 : List UInt8}
theorem C3.go (h0 : C3 w s A1 A2 A3 c1 c2 c3 l1 l2 l3 w) (hb : Below w.heap.size w W) : C3 w s A1 A2 A3 c1 c2 c3 l1 l2 l3 W :=
  ⟨hb, (hb.cell (p := ⟨s, 0, none⟩) (cell_lt h0.k1)).trans h0.k1, (hb.cell (p := ⟨s, 1, none⟩) (cell_lt h0.k2)).trans h0.k2, (hb.cell (p := ⟨s, 2, none⟩) (cell_lt h0.k3)).trans h0.k3, h0.h1.below hb, h0.h2.below hb, h0.h3.below hb⟩
end

set_option maxRecDepth 100000 in
set_option maxHeartbeats 4000000 in
theorem concat3 (s : Nat) (A1 A2 A3 : Option Addr) (c1 c2 c3 : Nat) (l1 l2 l3 : List UInt8) (hl : l1.length + l2.length + l3.length ≤ 1000000) (w : World) (h : C3 w s A1 A2 A3 c1 c2 c3 l1 l2 l3 w) :
    Calls Tryd.prog 76 #[.slice (some ⟨s, 0, none⟩) 3 3] w fun e w' => ∃ v, e = .returned v ∧ Row w' w.heap.size v (l1 ++ l2 ++ l3) ∧ Below w.heap.size w w' := by
  have HH := hid h
  obtain ⟨_, k1, k2, k3, _, _, _⟩ := h
  have HL := hid hl
  obtain ⟨n1, e1⟩ : ∃ n, l1.length = n := ⟨_, rfl⟩
  obtain ⟨n2, e2⟩ : ∃ n, l2.length = n := ⟨_, rfl⟩
  obtain ⟨n3, e3⟩ : ∃ n, l3.length = n := ⟨_, rfl⟩
  rw [e1] at k1; rw [e2] at k2; rw [e3] at k3
  have b1 : n1 ≤ 1000000 := by omega
  have b2 : n2 ≤ 1000000 := by omega
  have b3 : n3 ≤ 1000000 := by omega
  have b4 : n1 + n2 + n3 ≤ 1000000 := by omega
  have E1 := hid e1; have E2 := hid e2; have E3 := hid e3
  clear e1 e2 e3 hl
  go_enter Tryd.func76, Tryd.ntmps76
  go_wp2
  refine wp_loop_rounds 4 ?_
  rw [rounds_succ]; go_wp2
  rw [rounds_succ]; go_wp2
  rw [rounds_succ]; go_wp2
  rw [rounds_succ]; go_wp2_with (go_at_call 106; refine (grow_any _ (by omega) (by omega) _).mono ?_; rintro e w1 ⟨v1, rfl, hR1, hb1⟩; have HC1 := hid (HH.out.go hb1); obtain ⟨_, m1, m2, m3, _, _, _⟩ := HC1.out)
  refine wp_loop_rounds 4 ?_
  rw [rounds_succ]; go_wp2_with (at_builtin; refine wpList_append_any rfl (.tmp 31) (.tmp 32) rfl rfl _ w.heap.size _ [] rfl hR1 A1 c1 l1 rfl HC1.out.h1 (by have := HL.out; simp only [List.length_nil]; omega) HC1.out.below.size ?_; intro v2 w2 hR2 hb2; have HC2 := hid (HH.out.go (HC1.out.below.trans hb2)); obtain ⟨_, m1, m2, m3, _, _, _⟩ := HC2.out)
  rw [rounds_succ]; go_wp2_with (at_builtin; refine wpList_append_any rfl (.tmp 31) (.tmp 32) rfl rfl _ w.heap.size _ ([] ++ l1) rfl hR2 A2 c2 l2 rfl HC2.out.h2 (by have := HL.out; simp only [List.length_append, List.length_nil]; omega) HC2.out.below.size ?_; intro v3 w3 hR3 hb3; have HC3 := hid (HH.out.go (HC2.out.below.trans hb3)); obtain ⟨_, m1, m2, m3, _, _, _⟩ := HC3.out)
  rw [rounds_succ]; go_wp2_with (at_builtin; refine wpList_append_any rfl (.tmp 31) (.tmp 32) rfl rfl _ w.heap.size _ ([] ++ l1 ++ l2) rfl hR3 A3 c3 l3 rfl HC3.out.h3 (by have := HL.out; simp only [List.length_append, List.length_nil]; omega) HC3.out.below.size ?_; intro v4 w4 hR4 hb4; have HC4 := hid (HH.out.go (HC3.out.below.trans hb4)); obtain ⟨_, m1, m2, m3, _, _, _⟩ := HC4.out)
  rw [rounds_succ]; go_wp2
  go_ret
  refine ⟨_, rfl, ?_, HC4.out.below⟩
  rw [List.nil_append] at hR4
  exact hR4
end Go.Proofs.YtadehoibjpmhhaaDoor
