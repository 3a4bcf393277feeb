/- Several texts in one: SHa SH SI SJ. Conditions: as each theorem names them. -/
import Derived.Test.YtofkfafdodhmdaaGreatDoorNC
import Derived.Laws.BytesArg
import Derived.Laws.MakeOwn
import Derived.LoopN
import Derived.Deep.AppendSrc
import Derived.Lib.AppendZeros
import Derived.Shelf.Bytes.SlSmallAll
import Derived.RangeFuncNested
import Derived.RangeFuncBound
import Derived.RangeFuncCalls
import Derived.RangeFuncLeaves
import Derived.Shelf.Abstract
import Derived.Shelf.RegionOpen
import Derived.OwnWalkIn
import Derived.TacticsInMore
import Derived.LoopNIn
import Derived.LoopIn
/- bytes.Equal, slices.Grow at nothing, slices.Concat of three slices. Conditions: the slices hold their bytes, a million together at most. -/
namespace Go.Proofs.YtofkfafdodhmdaaGreatDoor
open Go.RowKit

theorem nums_str (l : List UInt8) : strOfNums (l.map fun x => (x.toNat : Int)) = ⟨l.toArray⟩ := by
  unfold strOfNums
  congr 2
  rw [List.map_map]
  apply List.ext_getElem
  · simp
  · intro i h1 h2; simp
theorem conv_any {A : Option Addr} {c : Nat} {l : List UInt8} {w : World} (h : HoldsA w A l) : (convert 25 9 (.slice A l.length c)).run Tryz.prog w = .ok (.string ⟨l.toArray⟩) w := by
  by_cases h0 : 0 < l.length
  · obtain ⟨b, off, rfl, hh⟩ := h h0
    rw [← nums_str]
    refine run_convert_bytes_arg w 25 5 Tryz.underlying25 Tryz.underlying5 b off l.length c _ (by simp) ?_ 9 Tryz.underlying9
    intro i hi
    rw [hh i hi]
    simp [List.getD_eq_getElem?_getD, List.getElem?_eq_getElem hi]
  · have : l = [] := List.eq_nil_of_length_eq_zero (by omega)
    subst this
    exact run_convert_bytes_zero w 25 5 Tryz.underlying25 Tryz.underlying5 A c 9 Tryz.underlying9

set_option maxHeartbeats 1000000 in
theorem equal_any (A1 A2 : Option Addr) (c1 c2 : Nat) (l1 l2 : List UInt8) (w : World) (h1 : HoldsA w A1 l1) (h2 : HoldsA w A2 l2) :
    Calls Tryz.prog 104 #[.slice A1 l1.length c1, .slice A2 l2.length c2] w fun e w' => e = .returned (.bool (decide (l1 = l2))) ∧ w' = w := by
  have e1 := conv_any (c := c1) h1
  have e2 := conv_any (c := c2) h2
  have HD : Hid ((l1 == l2) = decide (l1 = l2)) := by unfold Hid; rw [Bool.eq_iff_iff]; simp
  clear h1 h2
  go_enter Tryz.func104, Tryz.ntmps104
  go_wp2
  go_ret
  rw [← HD.out]
  exact ⟨rfl, rfl⟩

set_option maxRecDepth 100000 in
set_option maxHeartbeats 4000000 in
theorem grow_some (n : Nat) (h0 : 1 ≤ n) (hn : n ≤ 1000000) (w : World) :
    Calls Tryz.prog 107 #[.slice none 0 0, .int .i64 n] w fun e w' => ∃ v, e = .returned v ∧ Row w' w.heap.size v [] ∧ Below w.heap.size w w' := by
  obtain ⟨i0, hi, hz0, hz1, hz2⟩ := info_parts info_u8
  have happ := Lib.run_append_nil_zeros (P := Tryz.prog) w 25 3 25 5 i0 (.int .u8 0) .i64 .i64 Tryz.underlying25 Tryz.underlying3 hi hz0 n (by omega) (by omega) (by omega) (by rw [hz2]; omega)
  generalize hcap : grownCap w n 0 5 = cap2 at happ
  have hcapge : n ≤ cap2 := by rw [← hcap]; exact grownCap_ge w _ 0 5
  have hcaple : cap2 ≤ maxLen := by rw [← hcap]; exact grownCap_le_maxLen w _ 0 5 (by unfold maxLen; omega)
  generalize hZ : (Builtin.zeroCells (Value.int .u8 0).cells n ++ Builtin.zeroCells (Value.int .u8 0).cells (cap2 - n)) = Z at happ
  have hZs : Z.size = cap2 := by rw [← hZ]; simp [size_zeroCells, Value.cells]; omega
  have HR : Hid (∀ W : World, W.heap = (w.alloc (.cells Z 5)).heap → Row W w.heap.size (.slice (some ⟨w.heap.size, 0, none⟩) 0 cap2) []) := by
    intro W hW
    exact ⟨rfl, .inr ⟨w.heap.size, cap2, Z, rfl, Nat.le_refl _, by rw [hW]; exact heap_alloc_new w _, Nat.zero_le _, hcaple, by omega, by simp [bc]⟩⟩
  have hg : ¬ ((n : Int) < 0) := by omega
  clear hcap hZ hZs hi hz0 hz1 hz2
  unfold maxLen at hcaple
  go_enter Tryz.func107, Tryz.ntmps107
  go_wp2_with (at_builtin; refine Lib.wpList_append_run _ rfl (.tmp 20) (.tmp 21) _ _ rfl _ _ rfl rfl _ _ happ ?_)
  go_ret
  exact ⟨_, rfl, HR.out _ rfl, ((below_new w _).drew)⟩

set_option maxHeartbeats 1000000 in
theorem grow_zero (w : World) :
    Calls Tryz.prog 107 #[.slice none 0 0, .int .i64 0] w fun e w' => ∃ v, e = .returned v ∧ Row w' w.heap.size v [] ∧ Below w.heap.size w w' := by
  go_enter Tryz.func107, Tryz.ntmps107
  go_wp2
  go_ret
  exact ⟨_, rfl, Row.none _ _, Below.refl _ _⟩

theorem grow_any (z : Int) (h0 : 0 ≤ z) (h1 : z ≤ 1000000) (w : World) :
    Calls Tryz.prog 107 #[.slice none 0 0, .int .i64 z] w fun e w' => ∃ v, e = .returned v ∧ Row w' w.heap.size v [] ∧ Below w.heap.size w w' := by
  by_cases hz : z = 0
  · subst hz; exact grow_zero w
  · obtain ⟨n, rfl⟩ : ∃ n : Nat, z = n := ⟨z.toNat, by omega⟩
    exact grow_some n (by omega) (by omega) w

/-- What the second loop of Concat stands on: the list's cells and what they hold, in any world behind. -/
structure Cat3 (w : World) (s : Nat) (A1 A2 A3 : Option Addr) (c1 c2 c3 : Nat) (l1 l2 l3 : List UInt8) (W : World) : Prop where
  below : Below w.heap.size w W
  k1 : W.cell? ⟨s, 0, none⟩ = some (.slice A1 l1.length c1)
  k2 : W.cell? ⟨s, 1, none⟩ = some (.slice A2 l2.length c2)
  k3 : W.cell? ⟨s, 2, none⟩ = some (.slice A3 l3.length c3)
  h1 : HoldsA W A1 l1
  h2 : HoldsA W A2 l2
  h3 : HoldsA W A3 l3
section
variable {w W W' : World} {s : Nat} {A1 A2 A3 : Option Addr} {c1 c2 c3 : Nat} {l1 l2 l3 : List UInt8}
theorem Cat3.go (h0 : Cat3 w s A1 A2 A3 c1 c2 c3 l1 l2 l3 w) (hb : Below w.heap.size w W) : Cat3 w s A1 A2 A3 c1 c2 c3 l1 l2 l3 W :=
  ⟨hb, (hb.cell (p := ⟨s, 0, none⟩) (cell_lt h0.k1)).trans h0.k1, (hb.cell (p := ⟨s, 1, none⟩) (cell_lt h0.k2)).trans h0.k2, (hb.cell (p := ⟨s, 2, none⟩) (cell_lt h0.k3)).trans h0.k3, h0.h1.below hb, h0.h2.below hb, h0.h3.below hb⟩
end

set_option maxRecDepth 100000 in
set_option maxHeartbeats 4000000 in
theorem concat3 (s : Nat) (A1 A2 A3 : Option Addr) (c1 c2 c3 : Nat) (l1 l2 l3 : List UInt8) (hl : l1.length + l2.length + l3.length ≤ 1000000) (w : World) (h : Cat3 w s A1 A2 A3 c1 c2 c3 l1 l2 l3 w) :
    Calls Tryz.prog 83 #[.slice (some ⟨s, 0, none⟩) 3 3] w fun e w' => ∃ v, e = .returned v ∧ Row w' w.heap.size v (l1 ++ l2 ++ l3) ∧ Below w.heap.size w w' := by
  have HH := hid h
  obtain ⟨_, k1, k2, k3, _, _, _⟩ := h
  have HL := hid hl
  obtain ⟨n1, e1⟩ : ∃ n, l1.length = n := ⟨_, rfl⟩
  obtain ⟨n2, e2⟩ : ∃ n, l2.length = n := ⟨_, rfl⟩
  obtain ⟨n3, e3⟩ : ∃ n, l3.length = n := ⟨_, rfl⟩
  rw [e1] at k1; rw [e2] at k2; rw [e3] at k3
  have b1 : n1 ≤ 1000000 := by omega
  have b2 : n2 ≤ 1000000 := by omega
  have b3 : n3 ≤ 1000000 := by omega
  have b4 : n1 + n2 + n3 ≤ 1000000 := by omega
  have E1 := hid e1; have E2 := hid e2; have E3 := hid e3
  clear e1 e2 e3 hl
  go_enter Tryz.func83, Tryz.ntmps83
  go_wp2
  refine wp_loop_rounds 4 ?_
  rw [rounds_succ]; go_wp2
  rw [rounds_succ]; go_wp2
  rw [rounds_succ]; go_wp2
  rw [rounds_succ]; go_wp2_with (go_at_call 107; refine (grow_any _ (by omega) (by omega) _).mono ?_; rintro e w1 ⟨v1, rfl, hR1, hb1⟩; have HC1 := hid (HH.out.go hb1); obtain ⟨_, m1, m2, m3, _, _, _⟩ := HC1.out)
  refine wp_loop_rounds 4 ?_
  rw [rounds_succ]; go_wp2_with (at_builtin; refine wpList_append_any rfl (.tmp 31) (.tmp 32) rfl rfl _ w.heap.size _ [] rfl hR1 A1 c1 l1 rfl HC1.out.h1 (by have := HL.out; simp only [List.length_nil]; omega) HC1.out.below.size ?_; intro v2 w2 hR2 hb2; have HC2 := hid (HH.out.go (HC1.out.below.trans hb2)); obtain ⟨_, m1, m2, m3, _, _, _⟩ := HC2.out)
  rw [rounds_succ]; go_wp2_with (at_builtin; refine wpList_append_any rfl (.tmp 31) (.tmp 32) rfl rfl _ w.heap.size _ ([] ++ l1) rfl hR2 A2 c2 l2 rfl HC2.out.h2 (by have := HL.out; simp only [List.length_append, List.length_nil]; omega) HC2.out.below.size ?_; intro v3 w3 hR3 hb3; have HC3 := hid (HH.out.go (HC2.out.below.trans hb3)); obtain ⟨_, m1, m2, m3, _, _, _⟩ := HC3.out)
  rw [rounds_succ]; go_wp2_with (at_builtin; refine wpList_append_any rfl (.tmp 31) (.tmp 32) rfl rfl _ w.heap.size _ ([] ++ l1 ++ l2) rfl hR3 A3 c3 l3 rfl HC3.out.h3 (by have := HL.out; simp only [List.length_append, List.length_nil]; omega) HC3.out.below.size ?_; intro v4 w4 hR4 hb4; have HC4 := hid (HH.out.go (HC3.out.below.trans hb4)); obtain ⟨_, m1, m2, m3, _, _, _⟩ := HC4.out)
  rw [rounds_succ]; go_wp2
  go_ret
  refine ⟨_, rfl, ?_, HC4.out.below⟩
  rw [List.nil_append] at hR4
  exact hR4
end Go.Proofs.YtofkfafdodhmdaaGreatDoor

/- What stands in SHa, and begun. -/

/- slices.Chunk of 4096 bytes: what its iterator hands to a loop. Conditions: none of ours but the slice's own shape. -/
namespace Go.Proofs.YtofkfafdodhmdaaGreatDoor
open Go.RowKit Go.Shelf
attribute [local go_sem] Oper.semAt_some

/-- The j-th part of a slice of len bytes. -/
def chV (b off len j : Nat) : Value := .slice (some ⟨b, off + 4096 * j, none⟩) (min 4096 (len - 4096 * j)) (min 4096 (len - 4096 * j))
/-- What a round keeps: what lay below n₀, and the two boxes of the iterator. -/
def ChK (n₀ Bs : Nat) (W W' : World) : Prop := Below n₀ W W' ∧ W'.heap[Bs]? = W.heap[Bs]? ∧ W'.heap[Bs + 1]? = W.heap[Bs + 1]?
theorem chK_refl (n₀ Bs : Nat) (W : World) : ChK n₀ Bs W W := ⟨Below.refl _ _, rfl, rfl⟩
theorem chK_t {n₀ Bs : Nat} {A B C : World} (h : ChK n₀ Bs A B) (k : ChK n₀ Bs B C) : ChK n₀ Bs A C := ⟨h.1.trans k.1, k.2.1.trans h.2.1, k.2.2.trans h.2.2⟩

set_option maxRecDepth 100000 in
set_option maxHeartbeats 2000000 in
theorem chunk1_in (F : Fence) (n : Nat) (h109 : F.fn 147) (hro : F.round = none) (hn : 1 ≤ n) (l Bs n₀ b off len cap cnt : Nat) (hlc : len ≤ cap) (hlen : len ≤ 1000000) (_hcap : cap ≤ 9223372036854775807) (hcnt : cnt = (len + 4095) / 4096) (J Jx : List Nat → World → Prop) (hJd : ∀ s A, J s A → J s A.drew)
    (hY : ∀ pre x W, J pre W → pre.length < cnt → YieldAt F (n - 1) Tryz.prog l #[chV b off len x] W fun e W' =>
      (e = .returned (.bool true) ∧ J (pre ++ [x]) W' ∧ ChK n₀ Bs W W') ∨ (e = .returned (.bool false) ∧ Jx (pre ++ [x]) W'))
    (W : World) (hB1 : W.cell? ⟨Bs, 0, none⟩ = some (.slice (some ⟨b, off, none⟩) len cap)) (hB2 : W.cell? ⟨Bs + 1, 0, none⟩ = some (.int .i64 4096)) (h0 : J [] W) :
    CallsIn F n Tryz.prog 147 #[.func (.yield l) #[] #[], .pointer (some ⟨Bs, 0, none⟩), .pointer (some ⟨Bs + 1, 0, none⟩)] W fun e W' => (∃ v, e = .returned v) ∧
      ((∃ ys, ys = List.range cnt ∧ J ys W') ∨ (∃ pre, (∃ k, k ≤ cnt ∧ pre = List.range k) ∧ Jx pre W')) := by
  refine callsIn_of_wp Tryz.func147 rfl h109 ?_ hro
  simp only [Tryz.ntmps147, List.size_toArray, List.length_cons, List.length_nil, Nat.reduceAdd, Nat.reduceSub, Array.replicate_succ, Array.replicate_zero, List.push_toArray, List.append_toArray, List.nil_append, List.cons_append]
  gi_wp2
  gi_loopw [4] (fun i wr => ∃ k ii : Nat, Hid (ii = 4096 * k) ∧ Hid (k ≤ cnt) ∧ i = .int .i64 ii ∧ J (List.range k) wr ∧ ChK n₀ Bs W wr)
    (fun i _ => len + 4096 - (intOf i).toNat)
  case atStart => exact ⟨0, 0, rfl, Nat.zero_le _, rfl, h0, chK_refl _ _ _⟩
  case round =>
    obtain ⟨k, ii, HI, HK, rfl, hJs, hnx⟩ := hrel
    have c1 : wr.cell? ⟨Bs, 0, none⟩ = some (.slice (some ⟨b, off, none⟩) len cap) := (World.cell?_of_block (w := W) hnx.2.1).trans hB1
    have c2 : wr.cell? ⟨Bs + 1, 0, none⟩ = some (.int .i64 4096) := (World.cell?_of_block (w := W) hnx.2.2).trans hB2
    by_cases hlt : ii < len
    · obtain ⟨fn, tmps, assign, body, hy, hR⟩ := hY _ k wr.drew (hJd _ _ hJs) (by have := HI.out; rw [List.length_range]; omega)
      obtain ⟨ee, hee⟩ : ∃ ee : Nat, (min 4096 ((len - ii : Nat) : Int)) = ee := ⟨min 4096 (len - ii), by omega⟩
      have he1 : 1 ≤ ee := by omega
      have he2 : ii + ee ≤ len := by omega
      have hch : chV b off len k = .slice (some ⟨b, off + ii, none⟩) ee ee := by
        unfold chV; rw [← HI.out, show min 4096 (len - ii) = ee by omega]
      rw [hch] at hy
      have HE := hid hee
      clear hB1 hB2 hch
      gi_wp2
      gi_region
      all_goals (try (rw [hee]))
      all_goals clear hee
      all_goals gi_wp2
      all_goals
        refine hR.mono ?_
        rintro e W3 (⟨rfl, hJ3, hk3⟩ | ⟨rfl, hJx3⟩)
        · have d1 : W3.cell? ⟨Bs, 0, none⟩ = some (.slice (some ⟨b, off, none⟩) len cap) := (World.cell?_of_block (w := wr.drew) hk3.2.1).trans c1
          have d2 : W3.cell? ⟨Bs + 1, 0, none⟩ = some (.int .i64 4096) := (World.cell?_of_block (w := wr.drew) hk3.2.2).trans c2
          gi_wp2
          go_roundw
          case rel => exact ⟨k + 1, ii + 4096, by have := HI.out; unfold Hid; omega, by have := HI.out; unfold Hid; omega, by go_num, by rw [List.range_succ]; exact hJ3, chK_t hnx (chK_t ⟨(Below.refl _ _).drew, rfl, rfl⟩ hk3)⟩
          case measure => simp [intOf]; omega
        · gi_wp2
          refine bodyPost_ret (results_none rfl _ _ _) rfl ?_
          exact ⟨⟨_, rfl⟩, .inr ⟨_, ⟨k + 1, by have := HI.out; omega, List.range_succ.symm⟩, hJx3⟩⟩
    · clear hB1 hB2
      gi_wp2
      go_end0
      have hk : k = cnt := by have := HI.out; have := HK.out; omega
      exact ⟨⟨_, rfl⟩, .inl ⟨_, rfl, hk ▸ hJs⟩⟩
end Go.Proofs.YtofkfafdodhmdaaGreatDoor

/- sum.Sum at any bytes. Conditions: the slice holds its bytes, a million at most. -/
namespace Go.Proofs.YtofkfafdodhmdaaGreatDoor
open Go.RowKit Go.Shelf
attribute [local go_sem] Oper.semAt_some

theorem chunk1_nil_in (F : Fence) (n : Nat) (h109 : F.fn 147) (hro : F.round = none) (l Bs c : Nat) (A : Option Addr) (J : List Nat → World → Prop)
    (W : World) (hB1 : W.cell? ⟨Bs, 0, none⟩ = some (.slice A 0 c)) (h0 : J [] W) :
    CallsIn F n Tryz.prog 147 #[.func (.yield l) #[] #[], .pointer (some ⟨Bs, 0, none⟩), .pointer (some ⟨Bs + 1, 0, none⟩)] W fun e W' => (∃ v, e = .returned v) ∧ J [] W' := by
  refine callsIn_of_wp Tryz.func147 rfl h109 ?_ hro
  simp only [Tryz.ntmps147, List.size_toArray, List.length_cons, List.length_nil, Nat.reduceAdd, Nat.reduceSub, Array.replicate_succ, Array.replicate_zero, List.push_toArray, List.append_toArray, List.nil_append, List.cons_append]
  gi_wp2
  gi_loopw [4] (fun i wr => i = .int .i64 0 ∧ J [] wr ∧ wr.cell? ⟨Bs, 0, none⟩ = some (.slice A 0 c)) (fun _ _ => 0)
  case atStart => exact ⟨rfl, h0, hB1⟩
  case round =>
    obtain ⟨rfl, hJs, hc⟩ := hrel
    gi_wp2
    go_end0
    exact ⟨⟨_, rfl⟩, hJs⟩

/-- slices.Chunk: both arguments are boxed; the closure holds the boxes. -/
theorem chunk_in (F : Fence) (n : Nat) (h82 : F.fn 122) (hro : F.round = none) (a : Option Addr) (len cap : Nat) (w : World) :
    CallsIn F n Tryz.prog 122 #[.slice a len cap, .int .i64 4096] w fun e w' => e = .returned (.func (.func 147) #[] #[.pointer (some ⟨w.heap.size, 0, none⟩), .pointer (some ⟨w.heap.size + 1, 0, none⟩)]) ∧ w' = (w.alloc (.cells #[.slice a len cap] 25)).alloc (.cells #[.int .i64 4096] 3) := by
  refine callsIn_of_wp Tryz.func122 rfl h82 ?_ hro
  simp only [Tryz.ntmps122, List.size_toArray, List.length_cons, List.length_nil, Nat.reduceAdd, Nat.reduceSub, Array.replicate_succ, Array.replicate_zero, List.push_toArray, List.append_toArray, List.nil_append, List.cons_append]
  gi_wp2
  go_ret
  exact ⟨rfl, rfl⟩

theorem chunk_stops (F : Fence) (n : Nat) (h109 : F.fn 147) (hro : F.round = none) (hn : 1 ≤ n) (Bs n₀ b off cap : Nat) (A : Option Addr) (l : List UInt8) (hlen : l.length ≤ 1000000) (hlc : l.length ≤ cap) (hcap : cap ≤ 9223372036854775807) (hA : 0 < l.length → A = some ⟨b, off, none⟩) (w : World)
    (hB1 : w.cell? ⟨Bs, 0, none⟩ = some (.slice A l.length cap)) (hB2 : w.cell? ⟨Bs + 1, 0, none⟩ = some (.int .i64 4096)) :
    SeqStopsK F n Tryz.prog 147 #[.pointer (some ⟨Bs, 0, none⟩), .pointer (some ⟨Bs + 1, 0, none⟩)] (fun x : Nat => #[chV b off l.length x]) (ChK n₀ Bs) (fun ys => ys = List.range ((l.length + 4095) / 4096))
      (fun pre => ∃ k, k ≤ (l.length + 4095) / 4096 ∧ pre = List.range k) ((l.length + 4095) / 4096) w := fun i J Jx W hW hJ _ hY h0 => by
  have c1 := (hW.cell (p := ⟨Bs, 0, none⟩) (cell_lt hB1)).trans hB1
  have c2 := (hW.cell (p := ⟨Bs + 1, 0, none⟩) (cell_lt hB2)).trans hB2
  by_cases hl : 0 < l.length
  · rw [hA hl] at c1
    exact chunk1_in F n h109 hro hn i Bs n₀ b off l.length cap _ hlc hlen hcap rfl J Jx (fun s X hs => hJ s X X.drew none hs (⟨rfl, rfl, rfl, Nat.le_refl _, fun _ _ _ => rfl⟩ : X.grownBy X.drew none) (fun r e => by cases e)) hY W c1 c2 h0
  · have hz : l.length = 0 := by omega
    rw [hz] at c1
    refine (chunk1_nil_in F n h109 hro i Bs cap A J W c1 h0).mono fun e W' ⟨he, hj⟩ => ⟨he, .inl ⟨[], ?_, hj⟩⟩
    rw [hz]
    rfl
end Go.Proofs.YtofkfafdodhmdaaGreatDoor
