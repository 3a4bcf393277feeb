/- Several texts in one: SG SH SI SJ SK SL SM SN. Conditions: as each theorem names them. -/
import Derived.Test.YtjbjdkginemedaaGreatDoorQ4
import Derived.RangeFuncNested
import Derived.RangeFuncBound
import Derived.RangeFuncCalls
import Derived.RangeFuncLeaves
import Derived.Shelf.Abstract
import Derived.Shelf.RegionOpen
import Derived.OwnWalkIn
import Derived.TacticsInMore
import Derived.LoopNIn
import Derived.LoopIn
/- sum.begun at any bytes: are they a beginning of a number; slices.ContainsFunc and IndexFunc with its closure; bytes.Equal. Conditions: the slices hold their bytes. -/
namespace Go.Proofs.YtjbjdkginemedaaGreatDoor
open Go.RowKit

theorem begun1 (x : Int) (w : World) : Calls Tryz.prog 181 #[.int .u8 x] w fun e w' => e = .returned (.bool (decide (x < 128))) ∧ w = w' := by
  go_enter Tryz.func181, Tryz.ntmps181
  go_wp2
  go_ret
  exact ⟨rfl, rfl⟩

def allBig (l : List UInt8) : Bool := l.all fun x => decide (128 ≤ x.toNat)
theorem allBig_take {l : List UInt8} {k : Nat} (h : k < l.length) : allBig (l.take (k + 1)) = (allBig (l.take k) && decide (128 ≤ (l[k]).toNat)) := by
  unfold allBig
  rw [List.take_succ_eq_append_getElem h, List.all_append]
  simp
theorem allBig_no {l : List UInt8} {k : Nat} (h : k < l.length) (hx : (l[k]).toNat < 128) : allBig l = false := by
  unfold allBig
  rw [List.all_eq_false]
  exact ⟨l[k], List.getElem_mem h, by simp; omega⟩

set_option maxHeartbeats 1000000 in
theorem indexFunc_in (b off c : Nat) (l : List UInt8) (hl : l.length ≤ 9223372036854775807) (w : World) (h : Holds w b off l) :
    Calls Tryz.prog 187 #[.slice (some ⟨b, off, none⟩) l.length c, .func (.func 181) #[] #[]] w fun e w' => (∃ i : Int, e = .returned (.int .i64 i) ∧ Hid (decide (0 ≤ i) = !allBig l)) ∧ w' = w := by
  obtain ⟨m, hm⟩ : ∃ m, l.length = m := ⟨_, rfl⟩
  rw [hm]
  have HM := hid hm
  have hml : m ≤ 9223372036854775807 := by omega
  clear hm hl
  go_enter Tryz.func187, Tryz.ntmps187
  go_wp2
  go_loopw [8] (fun vi wr => ∃ k : Nat, k ≤ m ∧ vi = .int .i64 k ∧ Hid (allBig (l.take k) = true) ∧ wr = w) (fun vi _ => m - (intOf vi).toNat)
  case atStart => exact ⟨0, by omega, rfl, rfl, rfl⟩
  case round =>
    obtain ⟨k, hk, rfl, HA, rfl⟩ := hrel
    by_cases hlt : k < m
    · have hkl : k < l.length := by rw [HM.out]; exact hlt
      have hc := h k hkl
      rw [List.getD_eq_getElem?_getD, List.getElem?_eq_getElem hkl, Option.getD_some] at hc
      obtain ⟨x, hx⟩ : ∃ x : Int, (((l[k]).toNat : Nat) : Int) = x := ⟨_, rfl⟩
      rw [hx] at hc
      have HX := hid hx
      clear hx
      go_wp2_with (go_at_call 181; refine (begun1 x _).mono ?_; rintro e w2 ⟨rfl, rfl⟩)
      · rename_i hx128
        go_ret
        refine ⟨⟨_, rfl, ?_⟩, rfl⟩
        unfold Hid
        rw [allBig_no hkl (by have := HX.out; omega), decide_eq_true (by omega)]
        rfl
      · rename_i hx128
        go_roundw
        case rel =>
          refine ⟨k + 1, by omega, by go_num, ?_, trivial⟩
          unfold Hid
          rw [allBig_take hkl, HA.out, Bool.true_and, decide_eq_true_eq]
          have := HX.out
          omega
        case measure => simp [intOf]; omega
    · go_wp2
      go_ret
      refine ⟨⟨_, rfl, ?_⟩, rfl⟩
      unfold Hid
      have h1 := HA.out
      rw [List.take_of_length_le (by have := HM.out; omega)] at h1
      rw [h1]
      rfl

set_option maxHeartbeats 1000000 in
theorem indexFunc_nil (A : Option Addr) (c : Nat) (w : World) :
    Calls Tryz.prog 187 #[.slice A 0 c, .func (.func 181) #[] #[]] w fun e w' => (∃ i : Int, e = .returned (.int .i64 i) ∧ Hid (decide (0 ≤ i) = !allBig [])) ∧ w' = w := by
  go_enter Tryz.func187, Tryz.ntmps187
  go_wp2
  go_loopw [8] (fun vi wr => vi = .int .i64 0 ∧ wr = w) (fun _ _ => 0)
  case atStart => exact ⟨rfl, rfl⟩
  case round =>
    obtain ⟨rfl, rfl⟩ := hrel
    go_wp2
    go_ret
    exact ⟨⟨_, rfl, rfl⟩, rfl⟩

theorem indexFunc_any (A : Option Addr) (c : Nat) (l : List UInt8) (hl : l.length ≤ 9223372036854775807) (w : World) (h : HoldsA w A l) :
    Calls Tryz.prog 187 #[.slice A l.length c, .func (.func 181) #[] #[]] w fun e w' => (∃ i : Int, e = .returned (.int .i64 i) ∧ Hid (decide (0 ≤ i) = !allBig l)) ∧ w' = w := by
  by_cases h0 : 0 < l.length
  · obtain ⟨b, off, rfl, hh⟩ := h h0
    exact indexFunc_in b off c l hl w hh
  · have : l = [] := List.eq_nil_of_length_eq_zero (by omega)
    subst this
    exact indexFunc_nil A c w

set_option maxHeartbeats 1000000 in
theorem containsFunc_any (A : Option Addr) (c : Nat) (l : List UInt8) (hl : l.length ≤ 9223372036854775807) (w : World) (h : HoldsA w A l) :
    Calls Tryz.prog 180 #[.slice A l.length c, .func (.func 181) #[] #[]] w fun e w' => e = .returned (.bool (!allBig l)) ∧ w' = w := by
  have HI := hid (indexFunc_any A c l hl w h)
  clear hl h
  go_enter Tryz.func180, Tryz.ntmps180
  go_wp2_with (go_at_call 187; refine HI.out.mono ?_; rintro e w2 ⟨⟨i, rfl, hi⟩, rfl⟩)
  go_ret
  rw [hi.out]
  exact ⟨rfl, rfl⟩

theorem openB_eq (l : List UInt8) : openB l = (decide (l.length < 9) && allBig l) := by
  unfold openB allBig
  rw [show decide (l.length ≤ 8) = decide (l.length < 9) from decide_eq_decide.2 (by omega)]

set_option maxHeartbeats 1000000 in
theorem begun_any (A : Option Addr) (c : Nat) (l : List UInt8) (hl : l.length ≤ 9223372036854775807) (w : World) (h : HoldsA w A l) :
    Calls Tryz.prog 158 #[.slice A l.length c] w fun e w' => e = .returned (.bool (openB l)) ∧ w' = w := by
  have HI := hid (containsFunc_any A c l hl w h)
  have HE := hid (openB_eq l)
  obtain ⟨q, hq⟩ : ∃ q, allBig l = q := ⟨_, rfl⟩
  rw [hq] at HI HE
  obtain ⟨m, hm⟩ : ∃ m, l.length = m := ⟨_, rfl⟩
  rw [hm] at HI HE
  rw [hm]
  rw [hm] at hl
  clear h hq hm
  by_cases h9 : m < 9
  · go_enter Tryz.func158, Tryz.ntmps158
    go_wp2_with (go_at_call 180; refine HI.out.mono ?_; rintro e w2 ⟨rfl, rfl⟩)
    go_ret
    rw [HE.out, decide_eq_true h9]
    simp
  · go_enter Tryz.func158, Tryz.ntmps158
    go_wp2_with (go_at_call 180; refine HI.out.mono ?_; rintro e w2 ⟨rfl, rfl⟩)
    go_ret
    rw [HE.out, decide_eq_false h9]
    exact ⟨rfl, rfl⟩
end Go.Proofs.YtjbjdkginemedaaGreatDoor

/- What stands in SHa, and begun. -/

/- slices.Chunk of 4096 bytes: what its iterator hands to a loop. Conditions: none of ours but the slice's own shape. -/
namespace Go.Proofs.YtjbjdkginemedaaGreatDoor
open Go.RowKit Go.Shelf
attribute [local go_sem] Oper.semAt_some

/-- The j-th part of a slice of len bytes. -/
def chV (b off len j : Nat) : Value := .slice (some ⟨b, off + 4096 * j, none⟩) (min 4096 (len - 4096 * j)) (min 4096 (len - 4096 * j))
/-- What a round keeps: what lay below n₀, and the two boxes of the iterator. -/
def ChK (n₀ Bs : Nat) (W W' : World) : Prop := Below n₀ W W' ∧ W'.heap[Bs]? = W.heap[Bs]? ∧ W'.heap[Bs + 1]? = W.heap[Bs + 1]?
theorem chK_refl (n₀ Bs : Nat) (W : World) : ChK n₀ Bs W W := ⟨Below.refl _ _, rfl, rfl⟩
theorem chK_t {n₀ Bs : Nat} {A B C : World} (h : ChK n₀ Bs A B) (k : ChK n₀ Bs B C) : ChK n₀ Bs A C := ⟨h.1.trans k.1, k.2.1.trans h.2.1, k.2.2.trans h.2.2⟩

set_option maxRecDepth 100000 in
set_option maxHeartbeats 2000000 in
theorem chunk1_in (F : Fence) (n : Nat) (h109 : F.fn 185) (hro : F.round = none) (hn : 1 ≤ n) (l Bs n₀ b off len cap cnt : Nat) (hlc : len ≤ cap) (hlen : len ≤ 1000000) (_hcap : cap ≤ 9223372036854775807) (hcnt : cnt = (len + 4095) / 4096) (J Jx : List Nat → World → Prop) (hJd : ∀ s A, J s A → J s A.drew)
    (hY : ∀ pre x W, J pre W → pre.length < cnt → YieldAt F (n - 1) Tryz.prog l #[chV b off len x] W fun e W' =>
      (e = .returned (.bool true) ∧ J (pre ++ [x]) W' ∧ ChK n₀ Bs W W') ∨ (e = .returned (.bool false) ∧ Jx (pre ++ [x]) W'))
    (W : World) (hB1 : W.cell? ⟨Bs, 0, none⟩ = some (.slice (some ⟨b, off, none⟩) len cap)) (hB2 : W.cell? ⟨Bs + 1, 0, none⟩ = some (.int .i64 4096)) (h0 : J [] W) :
    CallsIn F n Tryz.prog 185 #[.func (.yield l) #[] #[], .pointer (some ⟨Bs, 0, none⟩), .pointer (some ⟨Bs + 1, 0, none⟩)] W fun e W' => (∃ v, e = .returned v) ∧
      ((∃ ys, ys = List.range cnt ∧ J ys W') ∨ (∃ pre, (∃ k, k ≤ cnt ∧ pre = List.range k) ∧ Jx pre W')) := by
  refine callsIn_of_wp Tryz.func185 rfl h109 ?_ hro
  simp only [Tryz.ntmps185, List.size_toArray, List.length_cons, List.length_nil, Nat.reduceAdd, Nat.reduceSub, Array.replicate_succ, Array.replicate_zero, List.push_toArray, List.append_toArray, List.nil_append, List.cons_append]
  gi_wp2
  gi_loopw [4] (fun i wr => ∃ k ii : Nat, Hid (ii = 4096 * k) ∧ Hid (k ≤ cnt) ∧ i = .int .i64 ii ∧ J (List.range k) wr ∧ ChK n₀ Bs W wr)
    (fun i _ => len + 4096 - (intOf i).toNat)
  case atStart => exact ⟨0, 0, rfl, Nat.zero_le _, rfl, h0, chK_refl _ _ _⟩
  case round =>
    obtain ⟨k, ii, HI, HK, rfl, hJs, hnx⟩ := hrel
    have c1 : wr.cell? ⟨Bs, 0, none⟩ = some (.slice (some ⟨b, off, none⟩) len cap) := (World.cell?_of_block (w := W) hnx.2.1).trans hB1
    have c2 : wr.cell? ⟨Bs + 1, 0, none⟩ = some (.int .i64 4096) := (World.cell?_of_block (w := W) hnx.2.2).trans hB2
    by_cases hlt : ii < len
    · obtain ⟨fn, tmps, assign, body, hy, hR⟩ := hY _ k wr.drew (hJd _ _ hJs) (by have := HI.out; rw [List.length_range]; omega)
      obtain ⟨ee, hee⟩ : ∃ ee : Nat, (min 4096 ((len - ii : Nat) : Int)) = ee := ⟨min 4096 (len - ii), by omega⟩
      have he1 : 1 ≤ ee := by omega
      have he2 : ii + ee ≤ len := by omega
      have hch : chV b off len k = .slice (some ⟨b, off + ii, none⟩) ee ee := by
        unfold chV; rw [← HI.out, show min 4096 (len - ii) = ee by omega]
      rw [hch] at hy
      have HE := hid hee
      clear hB1 hB2 hch
      gi_wp2
      gi_region
      all_goals (try (rw [hee]))
      all_goals clear hee
      all_goals gi_wp2
      all_goals
        refine hR.mono ?_
        rintro e W3 (⟨rfl, hJ3, hk3⟩ | ⟨rfl, hJx3⟩)
        · have d1 : W3.cell? ⟨Bs, 0, none⟩ = some (.slice (some ⟨b, off, none⟩) len cap) := (World.cell?_of_block (w := wr.drew) hk3.2.1).trans c1
          have d2 : W3.cell? ⟨Bs + 1, 0, none⟩ = some (.int .i64 4096) := (World.cell?_of_block (w := wr.drew) hk3.2.2).trans c2
          gi_wp2
          go_roundw
          case rel => exact ⟨k + 1, ii + 4096, by have := HI.out; unfold Hid; omega, by have := HI.out; unfold Hid; omega, by go_num, by rw [List.range_succ]; exact hJ3, chK_t hnx (chK_t ⟨(Below.refl _ _).drew, rfl, rfl⟩ hk3)⟩
          case measure => simp [intOf]; omega
        · gi_wp2
          refine bodyPost_ret (results_none rfl _ _ _) rfl ?_
          exact ⟨⟨_, rfl⟩, .inr ⟨_, ⟨k + 1, by have := HI.out; omega, List.range_succ.symm⟩, hJx3⟩⟩
    · clear hB1 hB2
      gi_wp2
      go_end0
      have hk : k = cnt := by have := HI.out; have := HK.out; omega
      exact ⟨⟨_, rfl⟩, .inl ⟨_, rfl, hk ▸ hJs⟩⟩
end Go.Proofs.YtjbjdkginemedaaGreatDoor

/- sum.Sum at any bytes. Conditions: the slice holds its bytes, a million at most. -/
namespace Go.Proofs.YtjbjdkginemedaaGreatDoor
open Go.RowKit Go.Shelf
attribute [local go_sem] Oper.semAt_some

theorem chunk1_nil_in (F : Fence) (n : Nat) (h109 : F.fn 185) (hro : F.round = none) (l Bs c : Nat) (A : Option Addr) (J : List Nat → World → Prop)
    (W : World) (hB1 : W.cell? ⟨Bs, 0, none⟩ = some (.slice A 0 c)) (h0 : J [] W) :
    CallsIn F n Tryz.prog 185 #[.func (.yield l) #[] #[], .pointer (some ⟨Bs, 0, none⟩), .pointer (some ⟨Bs + 1, 0, none⟩)] W fun e W' => (∃ v, e = .returned v) ∧ J [] W' := by
  refine callsIn_of_wp Tryz.func185 rfl h109 ?_ hro
  simp only [Tryz.ntmps185, List.size_toArray, List.length_cons, List.length_nil, Nat.reduceAdd, Nat.reduceSub, Array.replicate_succ, Array.replicate_zero, List.push_toArray, List.append_toArray, List.nil_append, List.cons_append]
  gi_wp2
  gi_loopw [4] (fun i wr => i = .int .i64 0 ∧ J [] wr ∧ wr.cell? ⟨Bs, 0, none⟩ = some (.slice A 0 c)) (fun _ _ => 0)
  case atStart => exact ⟨rfl, h0, hB1⟩
  case round =>
    obtain ⟨rfl, hJs, hc⟩ := hrel
    gi_wp2
    go_end0
    exact ⟨⟨_, rfl⟩, hJs⟩

/-- slices.Chunk: both arguments are boxed; the closure holds the boxes. -/
theorem chunk_in (F : Fence) (n : Nat) (h82 : F.fn 176) (hro : F.round = none) (a : Option Addr) (len cap : Nat) (w : World) :
    CallsIn F n Tryz.prog 176 #[.slice a len cap, .int .i64 4096] w fun e w' => e = .returned (.func (.func 185) #[] #[.pointer (some ⟨w.heap.size, 0, none⟩), .pointer (some ⟨w.heap.size + 1, 0, none⟩)]) ∧ w' = (w.alloc (.cells #[.slice a len cap] 30)).alloc (.cells #[.int .i64 4096] 3) := by
  refine callsIn_of_wp Tryz.func176 rfl h82 ?_ hro
  simp only [Tryz.ntmps176, List.size_toArray, List.length_cons, List.length_nil, Nat.reduceAdd, Nat.reduceSub, Array.replicate_succ, Array.replicate_zero, List.push_toArray, List.append_toArray, List.nil_append, List.cons_append]
  gi_wp2
  go_ret
  exact ⟨rfl, rfl⟩

theorem chunk_stops (F : Fence) (n : Nat) (h109 : F.fn 185) (hro : F.round = none) (hn : 1 ≤ n) (Bs n₀ b off cap : Nat) (A : Option Addr) (l : List UInt8) (hlen : l.length ≤ 1000000) (hlc : l.length ≤ cap) (hcap : cap ≤ 9223372036854775807) (hA : 0 < l.length → A = some ⟨b, off, none⟩) (w : World)
    (hB1 : w.cell? ⟨Bs, 0, none⟩ = some (.slice A l.length cap)) (hB2 : w.cell? ⟨Bs + 1, 0, none⟩ = some (.int .i64 4096)) :
    SeqStopsK F n Tryz.prog 185 #[.pointer (some ⟨Bs, 0, none⟩), .pointer (some ⟨Bs + 1, 0, none⟩)] (fun x : Nat => #[chV b off l.length x]) (ChK n₀ Bs) (fun ys => ys = List.range ((l.length + 4095) / 4096))
      (fun pre => ∃ k, k ≤ (l.length + 4095) / 4096 ∧ pre = List.range k) ((l.length + 4095) / 4096) w := fun i J Jx W hW hJ _ hY h0 => by
  have c1 := (hW.cell (p := ⟨Bs, 0, none⟩) (cell_lt hB1)).trans hB1
  have c2 := (hW.cell (p := ⟨Bs + 1, 0, none⟩) (cell_lt hB2)).trans hB2
  by_cases hl : 0 < l.length
  · rw [hA hl] at c1
    exact chunk1_in F n h109 hro hn i Bs n₀ b off l.length cap _ hlc hlen hcap rfl J Jx (fun s X hs => hJ s X X.drew none hs (⟨rfl, rfl, rfl, Nat.le_refl _, fun _ _ _ => rfl⟩ : X.grownBy X.drew none) (fun r e => by cases e)) hY W c1 c2 h0
  · have hz : l.length = 0 := by omega
    rw [hz] at c1
    refine (chunk1_nil_in F n h109 hro i Bs cap A J W c1 h0).mono fun e W' ⟨he, hj⟩ => ⟨he, .inl ⟨[], ?_, hj⟩⟩
    rw [hz]
    rfl
end Go.Proofs.YtjbjdkginemedaaGreatDoor

/- sum.Sum at any bytes: the document's sum. Conditions: the slice holds its bytes, a million at most. -/
namespace Go.Proofs.YtjbjdkginemedaaGreatDoor
open Go.RowKit Go.Shelf
attribute [local go_sem] Oper.semAt_some

/-- The j-th part of bytes. -/
def ch (l : List UInt8) (j : Nat) : List UInt8 := (l.drop (4096 * j)).take 4096
theorem ch_len (l : List UInt8) (j : Nat) : (ch l j).length = min 4096 (l.length - 4096 * j) := by unfold ch; rw [List.length_take, List.length_drop]
/-- The first parts of bytes, one behind the other. -/
def chs (l : List UInt8) (pre : List Nat) : List UInt8 := pre.flatMap (ch l)
theorem chs_snoc (l : List UInt8) (pre : List Nat) (j : Nat) : chs l (pre ++ [j]) = chs l pre ++ ch l j := by unfold chs; simp
theorem chs_range (l : List UInt8) (k : Nat) : chs l (List.range k) = l.take (4096 * k) := by
  induction k with
  | zero => simp [chs]
  | succ k ih =>
    rw [List.range_succ, chs_snoc, ih]
    unfold ch
    rw [show 4096 * (k + 1) = 4096 * k + 4096 by omega, List.take_add]
theorem chs_all (l : List UInt8) : chs l (List.range ((l.length + 4095) / 4096)) = l := by
  rw [chs_range, List.take_of_length_le (by omega)]

def lo (l : List UInt8) : Nat := (un l 1 0).1 % 65521
def hi (l : List UInt8) : Nat := (un l 1 0).2 % 65521
theorem lo_app (a b : List UInt8) : lo (a ++ b) = (un b (lo a) (hi a)).1 % 65521 := by
  unfold lo hi; rw [un_app]; exact (un_mod b _ _ _ _ (by omega) (by omega)).1
theorem hi_app (a b : List UInt8) : hi (a ++ b) = (un b (lo a) (hi a)).2 % 65521 := by
  unfold lo hi; rw [un_app]; exact (un_mod b _ _ _ _ (by omega) (by omega)).2
theorem sumN_eq (l : List UInt8) : sumN l = hi l * 65536 + lo l := rfl
theorem un_snoc (l : List UInt8) (c : UInt8) (x y : Nat) : un (l ++ [c]) x y = ((un l x y).1 + c.toNat, (un l x y).2 + ((un l x y).1 + c.toNat)) := by rw [un_app]; rfl
theorem un_small (l : List UInt8) (h : l.length ≤ 4096) (x y : Nat) (hx : x < 65521) (hy : y < 65521) : (un l x y).1 < 1200000 ∧ (un l x y).2 < 5000000000 := by
  have h1 := un_fst l x y
  have h2 := bsum_le l
  have h3 := un_snd l x y
  have h4 : l.length * (x + 255 * l.length) ≤ 4096 * (65520 + 255 * 4096) := Nat.mul_le_mul h (by omega)
  omega

theorem four_cells (w : World) (x0 x1 x2 x3 : Value) (T0 T1 T2 T3 : TypeId) : let W := (((w.alloc (.cells #[x0] T0)).alloc (.cells #[x1] T1)).alloc (.cells #[x2] T2)).alloc (.cells #[x3] T3)
    W.cell? ⟨w.heap.size, 0, none⟩ = some x0 ∧ W.cell? ⟨w.heap.size + 1, 0, none⟩ = some x1 ∧ W.cell? ⟨w.heap.size + 2, 0, none⟩ = some x2 ∧ W.cell? ⟨w.heap.size + 2 + 1, 0, none⟩ = some x3 ∧
    W.frozen? ⟨w.heap.size, 0, none⟩ = false ∧ W.frozen? ⟨w.heap.size + 1, 0, none⟩ = false ∧ W.heap.size = w.heap.size + 4 ∧ Below w.heap.size w W := by
  have b0 : Blk (w.alloc (.cells #[x0] T0)) w.heap.size T0 #[x0] := Blk.new w T0 #[x0]
  have b1 : Blk ((w.alloc (.cells #[x0] T0)).alloc (.cells #[x1] T1)) (w.heap.size + 1) T1 #[x1] := by have := Blk.new (w.alloc (.cells #[x0] T0)) T1 #[x1]; simpa using this
  have b2 : Blk (((w.alloc (.cells #[x0] T0)).alloc (.cells #[x1] T1)).alloc (.cells #[x2] T2)) (w.heap.size + 2) T2 #[x2] := by have := Blk.new ((w.alloc (.cells #[x0] T0)).alloc (.cells #[x1] T1)) T2 #[x2]; simpa using this
  have b3 : Blk ((((w.alloc (.cells #[x0] T0)).alloc (.cells #[x1] T1)).alloc (.cells #[x2] T2)).alloc (.cells #[x3] T3)) (w.heap.size + 2 + 1) T3 #[x3] := by have := Blk.new (((w.alloc (.cells #[x0] T0)).alloc (.cells #[x1] T1)).alloc (.cells #[x2] T2)) T3 #[x3]; simpa using this
  have b0' := ((b0.keep (below_new _ (.cells #[x1] T1)) (by simp)).keep (below_new _ (.cells #[x2] T2)) (by simp <;> omega)).keep (below_new _ (.cells #[x3] T3)) (by simp <;> omega)
  have b1' := (b1.keep (below_new _ (.cells #[x2] T2)) (by simp)).keep (below_new _ (.cells #[x3] T3)) (by simp <;> omega)
  have b2' := b2.keep (below_new _ (.cells #[x3] T3)) (by simp)
  exact ⟨b0'.cell 0, b1'.cell 0, b2'.cell 0, b3.cell 0, b0'.free 0, b1'.free 0, by simp, (((below_new w _).alloc (by simp) _).alloc (by simp; omega) _).alloc (by simp; omega) _⟩
theorem chK_b {S m : Nat} (hm : S + 4 ≤ m) (W : World) (l : Nat) (o o' : Obj) (hl : m ≤ l) (h : W.heap[l]? = some o) (_ : o.isCells = false) (_ : o.isWalk = false) : ChK S (S + 2) W (W.putObj l o') :=
  ⟨(Below.refl S W).grown (grownBy_putObj' W l o') (by have := (Array.getElem?_eq_some_iff.1 h).1; omega) (fun k e => by cases e; omega), World.putObj_heap_other (by omega), World.putObj_heap_other (by omega)⟩
theorem chK_set {S : Nat} {W W1 : World} (h : ChK S (S + 2) W W1) (k : Nat) (h1 : S ≤ k) (h2 : k < S + 2) (v : Value) : ChK S (S + 2) W (W1.setCell ⟨k, 0, none⟩ v) :=
  ⟨h.1.setCell (p := ⟨k, 0, none⟩) h1 v, (Below.heap_setCell _ _ _ _ (by simp; omega)).trans h.2.1, (Below.heap_setCell _ _ _ _ (by simp; omega)).trans h.2.2⟩
theorem cell_set_ne {w : World} {a b : Nat} (h : a ≠ b) (v : Value) : (w.setCell ⟨b, 0, none⟩ v).cell? ⟨a, 0, none⟩ = w.cell? ⟨a, 0, none⟩ :=
  World.cell?_setCell_other _ _ _ _ (by intro e; exact h (by simpa using (congrArg Addr.block e).symm))

set_option maxRecDepth 100000 in
set_option maxHeartbeats 4000000 in
theorem sum_in (F : Fence) (n : Nat) (h44 : F.fn 155) (h82 : F.fn 176) (h109 : F.fn 185) (hro : F.round = none) (hn : 3 ≤ n) (A : Option Addr) (b off cap : Nat) (l : List UInt8) (hlen : l.length ≤ 1000000) (hlc : l.length ≤ cap) (hcap : cap ≤ 9223372036854775807) (hA : 0 < l.length → A = some ⟨b, off, none⟩) (w : World) (hh : Holds w b off l) :
    CallsIn F n Tryz.prog 155 #[.slice A l.length cap] w fun e W' => e = .returned (.int .i64 (sumN l : Nat)) ∧ Below w.heap.size w W' := by
  have h1 : 1 ≤ n := by omega
  refine callsIn_of_wp_marks Tryz.func155 rfl h44 ?_ hro
  simp only [Tryz.ntmps155, List.size_toArray, List.length_cons, List.length_nil, Nat.reduceAdd, Nat.reduceSub, Array.replicate_succ, Array.replicate_zero, List.push_toArray, List.append_toArray, List.nil_append, List.cons_append]
  gi_wp2_with (gi_at_call 176; refine (chunk_in F (n - 1) h82 hro _ _ _ _).mono ?_; rintro e w' ⟨rfl, rfl⟩)
  obtain ⟨f0, f1, f2, f3, g0, g1, hsz, hB0⟩ := four_cells w (.int .i64 1) (.int .i64 0) (.slice A l.length cap) (.int .i64 4096) 3 3 30 3
  rw [show w.heap.size + 1 + 1 = w.heap.size + 2 by omega]
  obtain ⟨W0, hW0⟩ : ∃ W0, (((w.alloc (.cells #[.int .i64 1] 3)).alloc (.cells #[.int .i64 0] 3)).alloc (.cells #[.slice A l.length cap] 30)).alloc (.cells #[.int .i64 4096] 3) = W0 := ⟨_, rfl⟩
  rw [hW0] at f0 f1 f2 f3 g0 g1 hsz hB0
  rw [hW0]
  clear hW0
  obtain ⟨S, hS⟩ : ∃ S, w.heap.size = S := ⟨_, rfl⟩
  rw [hS] at f0 f1 f2 f3 g0 g1 hsz hB0
  rw [hS]
  have hbS : 0 < l.length → b < S := fun h => by rw [← hS]; exact hh.lt h
  refine wpIn_rangeFunc_ownG hro h1 (gf := 185) (lb := #[.pointer (some ⟨S + 2, 0, none⟩), .pointer (some ⟨S + 2 + 1, 0, none⟩)]) rfl h109 (enters_of Tryz.func185 (by kernel_rfl) rfl)
    (chunk_stops F (n - 1) h109 hro (by omega) (S + 2) S b off cap A l hlen hlc hcap hA W0 f2 f3) chK_t (chK_b (by omega)) (Below.refl _ _) (fun _ => rfl)
    (fun pre W => (W.cell? ⟨S, 0, none⟩ = some (.int .i64 ((lo (chs l pre) : Nat) : Int)) ∧ W.cell? ⟨S + 1, 0, none⟩ = some (.int .i64 ((hi (chs l pre) : Nat) : Int)) ∧ W.frozen? ⟨S, 0, none⟩ = false ∧ W.frozen? ⟨S + 1, 0, none⟩ = false) ∧ Below S w W)
    (fun _ _ _ => False)
    (OwnFrom.and (Own.from (fun s A B row hs hg hr => ⟨cell_kept hs.1 hg hr, cell_kept hs.2.1 hg hr, (frozen_kept hs.1 hg hr).trans hs.2.2.1, (frozen_kept hs.2.1 hg hr).trans hs.2.2.2⟩) _) (ownFrom_below (by omega) (by omega)))
    (fun _ _ _ _ _ hs _ _ => hs)
    ⟨⟨f0, f1, g0, g1⟩, hB0⟩
    (fun x => { tmps := #[.slice A l.length cap, undef, .int .i64 0, .pointer (some ⟨S, 0, none⟩), .pointer (some ⟨S + 1, 0, none⟩), chV b off l.length x, undef, undef, .slice A l.length cap, .func (.func 185) #[] #[.pointer (some ⟨S + 2, 0, none⟩), .pointer (some ⟨S + 2 + 1, 0, none⟩)], chV b off l.length x, undef, undef, undef, undef, undef, undef, undef, undef, undef, undef, undef, undef, undef, undef, undef, undef, undef, undef, undef, undef, undef, undef], defers := [] }) ?assign ?body ?done ?stop
  case assign =>
    intro l x W K hK
    gi_wp2
    exact hK
  case body =>
    rintro i pre x W ⟨⟨hc, hd, hf, hg⟩, hB⟩ _
    have hL0 : lo (chs l pre) < 65521 := by unfold lo; omega
    have hH0 : hi (chs l pre) < 65521 := by unfold hi; omega
    have hla := lo_app (chs l pre) (ch l x)
    have hha := hi_app (chs l pre) (ch l x)
    rw [← chs_snoc] at hla hha
    obtain ⟨L0, hL⟩ : ∃ L0, lo (chs l pre) = L0 := ⟨_, rfl⟩
    obtain ⟨H0, hH⟩ : ∃ H0, hi (chs l pre) = H0 := ⟨_, rfl⟩
    rw [hL] at hc hL0 hla hha; rw [hH] at hd hH0 hla hha
    have hpc : ∀ j, j < (ch l x).length → W.cell? ⟨b, off + 4096 * x + j, none⟩ = some (.int .u8 (((ch l x).getD j 0).toNat : Int)) := by
      intro j hj
      have hj2 := hj
      rw [ch_len] at hj2
      have h1 := hh (4096 * x + j) (by omega)
      rw [← hB.cell (p := ⟨b, off + (4096 * x + j), none⟩) (hbS (by omega))] at h1
      rw [show off + 4096 * x + j = off + (4096 * x + j) by omega, h1]
      unfold ch
      simp only [List.getD_eq_getElem?_getD, List.getElem?_take_of_lt (show j < 4096 by omega), List.getElem?_drop]
    have hv : chV b off l.length x = .slice (some ⟨b, off + 4096 * x, none⟩) (ch l x).length (ch l x).length := by unfold chV; rw [ch_len]
    have hcl : (ch l x).length ≤ 4096 := by rw [ch_len]; omega
    simp only [hv]
    obtain ⟨P, hP⟩ : ∃ P, ch l x = P := ⟨_, rfl⟩
    rw [hP] at hpc hcl hla hha ⊢
    have HLA := hid (And.intro hla hha)
    obtain ⟨o2, ho2⟩ : ∃ o2, off + 4096 * x = o2 := ⟨_, rfl⟩
    rw [ho2] at hpc ⊢
    obtain ⟨m, hm⟩ : ∃ m, P.length = m := ⟨_, rfl⟩
    rw [hm]
    have HM := hid hm
    have HPC := hid hpc
    have HL0 := hid hL0; have HH0 := hid hH0
    have hm4 : m ≤ 4096 := by omega
    have hpos : ∀ {j : Nat}, j < m → 0 < l.length := fun {j} hj => by rw [← hm, ← hP, ch_len] at hj; omega
    have HCL := hid hcl
    clear hv hP ho2 hm hpc hL hH hla hha hL0 hH0 hcl f0 f1 f2 f3 g0 g1 hB0 hh hA
    gi_wp2
    gi_loopw [13] (fun vi wr => ∃ (k : Nat) (X Y : Int), k ≤ m ∧ vi = .int .i64 k ∧ Hid (X = ((un (P.take k) L0 H0).1 : Nat) ∧ Y = ((un (P.take k) L0 H0).2 : Nat)) ∧ 0 ≤ X ∧ X ≤ 1200000 ∧ 0 ≤ Y ∧ Y ≤ 5000000000 ∧
      wr.cell? ⟨S, 0, none⟩ = some (.int .i64 X) ∧ wr.cell? ⟨S + 1, 0, none⟩ = some (.int .i64 Y) ∧ wr.frozen? ⟨S, 0, none⟩ = false ∧ wr.frozen? ⟨S + 1, 0, none⟩ = false ∧ Hid (KeepsOthers W wr ∧ ChK S (S + 2) W wr)) (fun vi _ => m - (intOf vi).toNat)
    case atStart => exact ⟨0, L0, H0, Nat.zero_le _, rfl, ⟨rfl, rfl⟩, by omega, by have := HL0.out; omega, by omega, by have := HH0.out; omega, hc, hd, hf, hg, ⟨KeepsOthers.refl _, chK_refl _ _ _⟩⟩
    case round =>
      obtain ⟨k, X, Y, hk, rfl, HX, x0, x1, y0, y1, q0, q1, q2, q3, HK⟩ := hrel
      by_cases hlt : k < m
      · have hkl : k < P.length := by rw [HM.out]; exact hlt
        have hb := HPC.out k hkl
        rw [List.getD_eq_getElem?_getD, List.getElem?_eq_getElem hkl, Option.getD_some] at hb
        obtain ⟨z, hz⟩ : ∃ z : Int, (((P[k]).toNat : Nat) : Int) = z := ⟨_, rfl⟩
        rw [hz] at hb
        have z0 : 0 ≤ z := by omega
        have z1 : z < 256 := by have := u8_lt P[k]; omega
        have hcb : wr.cell? ⟨b, o2 + k, none⟩ = some (.int .u8 z) := (HK.out.2.1.cell (p := ⟨b, o2 + k, none⟩) (hbS (hpos hlt))).trans hb
        have HN : Hid (X + z = ((un (P.take (k + 1)) L0 H0).1 : Nat) ∧ Y + (X + z) = ((un (P.take (k + 1)) L0 H0).2 : Nat) ∧ X + z ≤ 1200000 ∧ Y + (X + z) ≤ 5000000000) := by
          have h2 := un_small (P.take (k + 1)) (by rw [List.length_take]; have := HCL.out; omega) L0 H0 HL0.out HH0.out
          have h3 := HX.out
          rw [List.take_succ_eq_append_getElem hkl, un_snoc] at h2 ⊢
          simp only at h2 ⊢
          refine ⟨by omega, by omega, by omega, by omega⟩
        have HZ := hid hz
        clear hz hb
        gi_wp2
        go_roundw
        case rel =>
          obtain ⟨n1, n2, n3, n4⟩ := HN.out
          refine ⟨k + 1, X + z, Y + (X + z), by omega, by go_num, ⟨n1, n2⟩, by omega, by omega, by omega, by omega, ?_, ?_, ?_, ?_, ⟨(HK.out.1.trans (KeepsOthers.setCell _ _ _)).trans (KeepsOthers.setCell _ _ _), chK_set (chK_set HK.out.2 S (Nat.le_refl _) (by omega) _) (S + 1) (by omega) (by omega) _⟩⟩
          · rw [cell_set_ne (by omega)]; exact World.cell?_setCell_same' _ _ _ (by rw [q0]; rfl)
          · exact World.cell?_setCell_same' _ _ _ (by rw [cell_set_ne (by omega), q1]; rfl)
          · rw [World.frozen?_setCell, World.frozen?_setCell]; exact q2
          · rw [World.frozen?_setCell, World.frozen?_setCell]; exact q3
        case measure => simp [intOf]; omega
      · gi_wp2
        have hk' : k = P.length := by have := HM.out; omega
        have hx := HX.out
        rw [hk', List.take_of_length_le (Nat.le_refl _)] at hx
        obtain ⟨hla, hha⟩ := HLA.out
        refine ⟨((HK.out.1.trans (KeepsOthers.setCell _ _ _)).trans (KeepsOthers.setCell _ _ _)).from _, chK_set (chK_set HK.out.2 S (Nat.le_refl _) (by omega) _) (S + 1) (by omega) (by omega) _, ⟨?_, ?_, ?_, ?_⟩, ?_⟩
        · rw [hla, cell_set_ne (by omega), World.cell?_setCell_same' _ _ _ (by rw [q0]; rfl), hx.1]; rfl
        · rw [hha, World.cell?_setCell_same' _ _ _ (by rw [cell_set_ne (by omega), q1]; rfl), hx.2]; rfl
        · rw [World.frozen?_setCell, World.frozen?_setCell]; exact q2
        · rw [World.frozen?_setCell, World.frozen?_setCell]; exact q3
        · exact hB.trans (chK_set (chK_set HK.out.2 S (Nat.le_refl _) (by omega) _) (S + 1) (by omega) (by omega) _).1
  case done =>
    rintro D ys W hD rfl ⟨⟨hc, hd, hf, hg⟩, hB⟩ hK
    rw [chs_all] at hc hd
    have hl1 : lo l < 65521 := by unfold lo; omega
    have hh1 : hi l < 65521 := by unfold hi; omega
    have e1 : bits .or .i64 ((hi l : Int) * 65536) (lo l : Int) = ((sumN l : Nat) : Int) := by
      have e2 : ((hi l : Int) * 65536) = ((hi l * 65536 : Nat) : Int) := by omega
      rw [e2, or_sum _ _ hh1 hl1, sumN_eq]
    have E1 := hid e1
    clear e1
    gi_wp2
    refine ⟨by simp, .inl ⟨_, _, rfl, run_takeDeferred hK, ?_⟩⟩
    refine ⟨_, results_tmp rfl _ _ _, ?_, by rw [hS]; exact hB.trans (belowK_b (w := W0) (by omega) W D _ _ hD hK rfl rfl)⟩
    rw [← E1.out]
    rfl
  case stop =>
    rintro D c pre W _ _ h _
    exact h.elim

/-- sum.Sum of a slice that holds l. -/
theorem sum_any (A : Option Addr) (c : Nat) (l : List UInt8) (hlen : l.length ≤ 1000000) (hlc : l.length ≤ c) (hc : c ≤ 9223372036854775807) (w : World) (h : HoldsA w A l) :
    Calls Tryz.prog 155 #[.slice A l.length c] w fun e w' => e = .returned (.int .i64 ((sumN l : Nat) : Int)) ∧ Below w.heap.size w w' := by
  by_cases h0 : 0 < l.length
  · obtain ⟨b, off, rfl, hh⟩ := h h0
    exact callsIn_wide.1 (sum_in Fence.wide 5 trivial trivial trivial rfl (by omega) _ b off c l hlen hlc hc (fun _ => rfl) w hh)
  · exact callsIn_wide.1 (sum_in Fence.wide 5 trivial trivial trivial rfl (by omega) A 0 0 c l hlen hlc hc (fun h => absurd h h0) w (fun i hi => absurd hi (by omega)))
end Go.Proofs.YtjbjdkginemedaaGreatDoor

/- sum.Frame at any bytes: a frame, or nothing where there are too many. Conditions: the slice holds its bytes. -/
namespace Go.Proofs.YtjbjdkginemedaaGreatDoor
open Go.RowKit

theorem seal_row (w : World) (B : Nat) (hB : B ≤ w.heap.size) (s : Nat) (q1 q2 q3 q4 : Int) (h1 : q1 = ((UInt8.ofNat (s / 16777216 % 256)).toNat : Int)) (h2 : q2 = ((UInt8.ofNat (s / 65536 % 256)).toNat : Int)) (h3 : q3 = ((UInt8.ofNat (s / 256 % 256)).toNat : Int)) (h4 : q4 = ((UInt8.ofNat (s % 256)).toNat : Int)) :
    Row (w.alloc (.cells #[.int .u8 q1, .int .u8 q2, .int .u8 q3, .int .u8 q4] 5)) B (.slice (some ⟨w.heap.size, 0, none⟩) 4 4) (byW 4 s) := by
  subst h1; subst h2; subst h3; subst h4
  have e : byW 4 s = [UInt8.ofNat (s / 16777216 % 256), UInt8.ofNat (s / 65536 % 256), UInt8.ofNat (s / 256 % 256), UInt8.ofNat (s % 256)] := by
    simp only [byW, List.nil_append, List.cons_append]
    simp only [Nat.div_div_eq_div_mul, Nat.reduceMul]
  rw [e]
  exact Row.new w B hB [UInt8.ofNat (s / 16777216 % 256), UInt8.ofNat (s / 65536 % 256), UInt8.ofNat (s / 256 % 256), UInt8.ofNat (s % 256)] (by unfold maxLen; simp)

set_option maxHeartbeats 1000000 in
theorem sealOf_any (v : Value) (l : List UInt8) (hlen : l.length ≤ 1000000) (w : World) (h : SlA w v l) :
    Calls Tryz.prog 121 #[v] w fun e w' => ∃ v', e = .returned v' ∧ Row w' w.heap.size v' (byW 4 (sumN l)) ∧ Below w.heap.size w w' := by
  obtain ⟨A, c, rfl, h2, h3, h4, _⟩ := h
  have HS := hid (sum_any A c l hlen h2 h3 w h4)
  have hlt := sumN_lt l
  obtain ⟨s, hs⟩ : ∃ s, sumN l = s := ⟨_, rfl⟩
  rw [hs] at HS hlt
  rw [hs]
  obtain ⟨S, hS⟩ : ∃ S : Int, (s : Int) = S := ⟨_, rfl⟩
  have HS : Hid (Calls Tryz.prog 155 #[.slice A l.length c] w fun e w' => e = .returned (.int .i64 S) ∧ Below w.heap.size w w') := by rw [← hS]; exact HS.out
  have HE := hid (And.intro hS hlt)
  have s0 : 0 ≤ S := by omega
  clear hs hS hlt h4
  go_enter Tryz.func121, Tryz.ntmps121
  go_wp2_with (go_at_call 155; refine HS.out.mono ?_; rintro e w1 ⟨rfl, hb⟩)
  go_ret
  refine ⟨_, rfl, ?_, hb.trans ((below_new w1 _).mono hb.size)⟩
  refine seal_row w1 w.heap.size hb.size s _ _ _ _ ?_ ?_ ?_ ?_ <;> (have := HE.out; rw [UInt8.toNat_ofNat']; omega)

set_option maxHeartbeats 1000000 in
theorem frame_big (A : Option Addr) (n c : Nat) (hn : 65536 < n) (w : World) :
    Calls Tryz.prog 62 #[.slice A n c] w fun e w' => e = .returned (.tuple #[.slice none 0 0, .bool false]) ∧ w' = w := by
  go_enter Tryz.func62, Tryz.ntmps62
  go_wp2
  go_ret2
  exact ⟨rfl, rfl⟩

/-- Three slices in a new list, in a world behind. -/
theorem c3_new (W : World) (v1 v2 v3 : Value) (l1 l2 l3 : List UInt8) (h1 : SlA W v1 l1) (h2 : SlA W v2 l2) (h3 : SlA W v3 l3) (T : TypeId) :
    ∃ A1 A2 A3 c1 c2 c3, Cat3 (W.alloc (.cells #[v1, v2, v3] T)) W.heap.size A1 A2 A3 c1 c2 c3 l1 l2 l3 (W.alloc (.cells #[v1, v2, v3] T)) := by
  obtain ⟨A1, c1, rfl, _, _, g1, _⟩ := h1
  obtain ⟨A2, c2, rfl, _, _, g2, _⟩ := h2
  obtain ⟨A3, c3, rfl, _, _, g3, _⟩ := h3
  have hb := below_new W (.cells #[.slice A1 l1.length c1, .slice A2 l2.length c2, .slice A3 l3.length c3] T)
  have hB : Blk (W.alloc (.cells #[.slice A1 l1.length c1, .slice A2 l2.length c2, .slice A3 l3.length c3] T)) W.heap.size T _ := Blk.new W T _
  exact ⟨A1, A2, A3, c1, c2, c3, Below.refl _ _, hB.cell 0, hB.cell 1, hB.cell 2, g1.below hb, g2.below hb, g3.below hb⟩

set_option maxHeartbeats 1000000 in
theorem frame_any (v : Value) (l : List UInt8) (hlen : l.length ≤ 65536) (w : World) (h : SlA w v l) :
    Calls Tryz.prog 62 #[v] w fun e w' => ∃ v', e = .returned (.tuple #[v', .bool true]) ∧ Row w' w.heap.size v' (frameM l) ∧ Below w.heap.size w w' := by
  have HV := hid h
  obtain ⟨A, c, rfl, h2, h3, h4⟩ := h
  obtain ⟨n, hn⟩ : ∃ n, l.length = n := ⟨_, rfl⟩
  have HL := hid hlen
  have HN : Hid (∀ W : World, Calls Tryz.prog 38 #[.int .i64 (n : Int)] W fun e w' => ∃ v, e = .returned v ∧ Row w' W.heap.size v (numW l.length) ∧ Below W.heap.size W w') := fun W => by rw [hn]; exact num_any n (by omega) W
  have HS : Hid (∀ W : World, SlA W (.slice A n c) l → Calls Tryz.prog 121 #[.slice A n c] W fun e w' => ∃ v', e = .returned v' ∧ Row w' W.heap.size v' (byW 4 (sumN l)) ∧ Below W.heap.size W w') := fun W hW => sealOf_any _ l (by omega) W hW
  have HC : Hid (∀ (W : World) (v1 v3 : Value), SlA W v1 (numW l.length) → SlA W (.slice A n c) l → SlA W v3 (byW 4 (sumN l)) → w.heap.size ≤ W.heap.size →
      Calls Tryz.prog 64 #[.slice (some ⟨W.heap.size, 0, none⟩) 3 3] (W.alloc (.cells #[v1, .slice A n c, v3] 30)) fun e w' => ∃ v, e = .returned v ∧ Row w' w.heap.size v (frameM l) ∧ Below w.heap.size (W.alloc (.cells #[v1, .slice A n c, v3] 30)) w') := by
    intro W v1 v3 q1 q2 q3 hs
    obtain ⟨A1, A2, A3, c1, c2, c3, hC⟩ := c3_new W v1 _ v3 _ _ _ q1 q2 q3 30
    have hnl : (numW l.length).length ≤ 9 := numW_len9 _ (by omega)
    refine (concat3 W.heap.size A1 A2 A3 c1 c2 c3 _ _ _ (by rw [byW_len]; omega) _ hC).mono fun e w' ⟨v, he, hR, hb⟩ => ⟨v, he, ?_, hb.mono (by simp; omega)⟩
    exact hR.le (by simp; omega)
  rw [hn]
  rw [hn] at hlen HV
  clear h2 h3 h4 hn
  go_enter Tryz.func62, Tryz.ntmps62
  go_wp2_with (first
    | (go_at_call 38; refine (HN.out _).mono ?_; rintro e w1 ⟨v1, rfl, hR1, hb1⟩; have hS1 := hid hR1.sla; obtain ⟨A1, c1, rfl, _, _, _⟩ := hR1.sla)
    | (go_at_call 121; refine (HS.out _ (HV.out.below hb1)).mono ?_; rintro e w2 ⟨v2, rfl, hR2, hb2⟩; have hS2 := hid hR2.sla; obtain ⟨A2, c2, rfl, _, _, _⟩ := hR2.sla)
    | (go_at_call 64; refine (HC.out w2 _ _ (hS1.out.below hb2) ((HV.out.below hb1).below hb2) hS2.out (Nat.le_trans hb1.size hb2.size)).mono ?_; rintro e w3 ⟨v3, rfl, hR3, hb3⟩))
  go_ret2
  exact ⟨_, rfl, hR3, ((hb1.trans (hb2.mono hb1.size)).alloc (Nat.le_trans hb1.size hb2.size) _).trans hb3⟩
end Go.Proofs.YtjbjdkginemedaaGreatDoor

/- sum.look and sum.Next at any bytes: what stands at the beginning. Conditions: the slice holds its bytes, a million at most. -/
namespace Go.Proofs.YtjbjdkginemedaaGreatDoor
open Go.RowKit

/-- Where the number ends does not hang on what stands behind it. -/
theorem tkGo_more (f : Nat) : ∀ i l n r, tkGo f i l = some (n, r) → ∃ k, 1 ≤ k ∧ k ≤ f ∧ k ≤ l.length ∧ r = l.drop k ∧ ∀ m, k ≤ m → tkGo f i (l.take m) = some (n, (l.take m).drop k) := by
  induction f with
  | zero => intro i l n r h; simp [tkGo] at h
  | succ f ih =>
    intro i l n r h
    cases l with
    | nil => simp [tkGo] at h
    | cons x t =>
      rw [tkGo] at h
      split at h
      · rename_i h1
        split at h
        · cases h
        · rename_i h2
          cases h
          refine ⟨1, by omega, by omega, by simp, by simp, fun m hm => ?_⟩
          obtain ⟨m', rfl⟩ : ∃ m', m = m' + 1 := ⟨m - 1, by omega⟩
          rw [List.take_succ_cons, tkGo, if_pos h1, if_neg h2]
          simp
      · rename_i h1
        cases hm : tkGo f (i + 1) t with
        | none => rw [hm] at h; cases h
        | some p =>
          rw [hm] at h
          obtain ⟨k, h2, h3, h4, h5, h6⟩ := ih _ _ _ _ hm
          simp only [Option.map_some, Option.some.injEq, Prod.mk.injEq] at h
          refine ⟨k + 1, by omega, by omega, by simp only [List.length_cons]; omega, by rw [← h.2, h5]; simp, fun m hm2 => ?_⟩
          obtain ⟨m', rfl⟩ : ∃ m', m = m' + 1 := ⟨m - 1, by omega⟩
          rw [List.take_succ_cons, tkGo, if_neg h1, h6 m' (by omega)]
          simp [h.1]
theorem tk_head_none {l : List UInt8} (h : tk l = none) : tk (l.take 9) = none := by
  have := tkGo_take 9 0 l
  unfold tk at *
  rw [h] at this
  cases hk : tkGo 9 0 (l.take 9) with
  | none => rfl
  | some p => rw [hk] at this; cases this
theorem open_head (l : List UInt8) : openB (l.take 9) = openB l := by
  by_cases h : l.length ≤ 9
  · rw [List.take_of_length_le h]
  · unfold openB
    rw [List.length_take, decide_eq_false (by omega), decide_eq_false (by omega)]
    rfl

/-- The head of bytes: the first nine at most. -/
theorem sla_head {w : World} {A : Option Addr} {c : Nat} {l : List UInt8} (h : SlA w (.slice A l.length c) l) : SlA w (.slice A (min l.length 9) c) (l.take 9) := by
  obtain ⟨A', c', e, h2, h3, h4, h5⟩ := h
  injection e with e1 _ e2
  subst e1; subst e2
  refine ⟨A, c, by rw [List.length_take, Nat.min_comm], by rw [List.length_take]; omega, h3, fun h0 => ?_, h5⟩
  have hl : 0 < l.length := by rw [List.length_take] at h0; omega
  obtain ⟨b, off, e, hh⟩ := h4 hl
  refine ⟨b, off, e, fun i hi => ?_⟩
  rw [List.length_take] at hi
  rw [hh i (by omega)]
  simp only [List.getD_eq_getElem?_getD, List.getElem?_take_of_lt (show i < 9 by omega)]

def LEnd (w : World) (l : List UInt8) : Nx → Ending → World → Prop
  | .whole x r, e, w' => ∃ A' c', e = .returned (.tuple #[.slice A' x.length c', .int .i64 ((l.length - r.length : Nat) : Int), .int .i64 0]) ∧ SlA w' (.slice A' x.length c') x ∧ Below w.heap.size w w'
  | .torn, e, w' => e = .returned (.tuple #[.slice none 0 0, .int .i64 0, .int .i64 1]) ∧ Below w.heap.size w w'
  | .bad, e, w' => e = .returned (.tuple #[.slice none 0 0, .int .i64 0, .int .i64 2]) ∧ Below w.heap.size w w'

set_option maxHeartbeats 1000000 in
/-- No number there. -/
theorem look_none (A : Option Addr) (m h c : Nat) (q : Bool) (hh : h = min m 9) (hmc : m ≤ c) (hc : c ≤ 9223372036854775807) (hA : A = none → c = 0) (w : World)
    (HT : Calls Tryz.prog 113 #[.slice A h c] w fun e w' => e = .returned (.tuple #[.int .i64 0, .slice none 0 0, .bool false]) ∧ Below w.heap.size w w')
    (HB : ∀ W, Below w.heap.size w W → Calls Tryz.prog 158 #[.slice A h c] W fun e w' => e = .returned (.bool q) ∧ w' = W) :
    Calls Tryz.prog 126 #[.slice A m c] w fun e w' => e = .returned (.tuple #[.slice none 0 0, .int .i64 0, .int .i64 (if q then 1 else 2)]) ∧ Below w.heap.size w w' := by
  have hmin : min (m : Int) 9 = (h : Int) := by omega
  have HT := hid HT
  have HB := hid HB
  have hhc : h ≤ c := by omega
  have hHH := hid hh
  clear hh
  cases A with
  | none =>
    obtain rfl := hA rfl
    obtain rfl : m = 0 := by omega
    obtain rfl : h = 0 := by omega
    clear hmin
    go_enter Tryz.func126, Tryz.ntmps126
    go_wp2_with (first | (go_at_call 113; refine HT.out.mono ?_; rintro e w1 ⟨rfl, hb⟩) | (go_at_call 158; refine (HB.out _ hb).mono ?_; rintro e w2 ⟨rfl, rfl⟩))
    all_goals
      refine bodyPost_ret (results_tmp3 rfl _ _ _) rfl ?_
      exact ⟨rfl, hb⟩
  | some ad =>
    clear hA
    go_enter Tryz.func126, Tryz.ntmps126
    go_wp2_with (first | (go_at_call 113; refine HT.out.mono ?_; rintro e w1 ⟨rfl, hb⟩) | (go_at_call 158; refine (HB.out _ hb).mono ?_; rintro e w2 ⟨rfl, rfl⟩))
    all_goals
      refine bodyPost_ret (results_tmp3 rfl _ _ _) rfl ?_
      exact ⟨rfl, hb⟩

/-- What Take of the head gives, in the walk's words. -/
def HeadSome (w : World) (A : Option Addr) (h c n r : Nat) : Prop :=
  Calls Tryz.prog 113 #[.slice A h c] w fun e w' => ∃ A' c', e = .returned (.tuple #[.int .i64 (n : Int), .slice A' r c', .bool true]) ∧ Below w.heap.size w w'

set_option maxRecDepth 100000 in
set_option maxHeartbeats 2000000 in
/-- A number there that is too great. -/
theorem look_great (ad : Addr) (m h c n r : Nat) (hh : h = min m 9) (hmc : m ≤ c) (_hc : c ≤ 9223372036854775807) (hn : 65536 < n) (hn2 : n < 9223372036854775808) (w : World) (HT : HeadSome w (some ad) h c n r) :
    Calls Tryz.prog 126 #[.slice (some ad) m c] w fun e w' => e = .returned (.tuple #[.slice none 0 0, .int .i64 0, .int .i64 2]) ∧ Below w.heap.size w w' := by
  have hmin : min (m : Int) 9 = (h : Int) := by omega
  obtain ⟨N, hN⟩ : ∃ N : Int, (n : Int) = N := ⟨_, rfl⟩
  unfold HeadSome at HT
  rw [hN] at HT
  have HT := hid HT
  have hhc : h ≤ c := by omega
  have hg : 65536 < N := by omega
  clear hh hn hn2 hN
  go_enter Tryz.func126, Tryz.ntmps126
  go_wp2_with (go_at_call 113; refine HT.out.mono ?_; rintro e w1 ⟨A', c', rfl, hb⟩)
  refine bodyPost_ret (results_tmp3 rfl _ _ _) rfl ?_
  exact ⟨rfl, hb⟩

set_option maxRecDepth 100000 in
set_option maxHeartbeats 2000000 in
/-- Fewer bytes than are told, and four. -/
theorem look_short (ad : Addr) (m h c n r k : Nat) (hh : h = min m 9) (hmc : m ≤ c) (_hc : c ≤ 9223372036854775807) (hn : n ≤ 65536) (hr : k + r = h) (hs : m < k + n + 4) (w : World) (HT : HeadSome w (some ad) h c n r) :
    Calls Tryz.prog 126 #[.slice (some ad) m c] w fun e w' => e = .returned (.tuple #[.slice none 0 0, .int .i64 0, .int .i64 1]) ∧ Below w.heap.size w w' := by
  have hmin : min (m : Int) 9 = (h : Int) := by omega
  unfold HeadSome at HT
  have HT := hid HT
  have hhc : h ≤ c := by omega
  have hm9 : h ≤ 9 := by omega
  have hk : (h : Int) - (r : Int) = (k : Int) := by omega
  clear hh
  go_enter Tryz.func126, Tryz.ntmps126
  go_wp2_with (go_at_call 113; refine HT.out.mono ?_; rintro e w1 ⟨A', c', rfl, hb⟩)
  refine bodyPost_ret (results_tmp3 rfl _ _ _) rfl ?_
  exact ⟨rfl, hb⟩

set_option maxRecDepth 100000 in
set_option maxHeartbeats 4000000 in
/-- As many bytes as are told, and four. -/
theorem look_full (b off m h c n r k : Nat) (hh : h = min m 9) (hmc : m ≤ c) (hc : c ≤ 9223372036854775807) (hn : n ≤ 65536) (hr : k + r = h) (hs : k + n + 4 ≤ m) (d : Bool) (sl : List UInt8) (w : World) (HT : HeadSome w (some ⟨b, off, none⟩) h c n r)
    (HS : Hid (∀ W, Below w.heap.size w W → Calls Tryz.prog 121 #[.slice (some ⟨b, off + k, none⟩) n (c - k)] W fun e w' => ∃ A2 c2, e = .returned (.slice A2 4 c2) ∧ Hid (SlA w' (.slice A2 4 c2) sl) ∧ Below W.heap.size W w'))
    (HE : Hid (∀ W A2 c2, Below w.heap.size w W → SlA W (.slice A2 4 c2) sl → Calls Tryz.prog 118 #[.slice (some ⟨b, off + (k + n), none⟩) 4 (c - (k + n)), .slice A2 4 c2] W fun e w' => e = .returned (.bool d) ∧ w' = W)) :
    Calls Tryz.prog 126 #[.slice (some ⟨b, off, none⟩) m c] w fun e w' => e = .returned (.tuple (if d then #[.slice (some ⟨b, off + k, none⟩) n (c - k), .int .i64 ((k + n + 4 : Nat) : Int), .int .i64 0] else #[.slice none 0 0, .int .i64 0, .int .i64 2])) ∧ Below w.heap.size w w' := by
  have hmin : min (m : Int) 9 = (h : Int) := by omega
  unfold HeadSome at HT
  have HT := hid HT
  have hhc : h ≤ c := by omega
  have hm9 : h ≤ 9 := by omega
  have hk : (h : Int) - (r : Int) = (k : Int) := by omega
  clear hh
  go_enter Tryz.func126, Tryz.ntmps126
  go_wp2_with (go_at_call 113; refine HT.out.mono ?_; rintro e w1 ⟨A', c', rfl, hb⟩)
  have hHeld := hid hb
  have E1 : Hid (((k : Int) + n).toNat = k + n) := by unfold Hid; omega
  have E2 : Hid (((k : Int) + n + 4).toNat - (k + n) = 4) := by unfold Hid; omega
  have E3 : Hid (((k + n + 4 : Nat) : Int) = (k : Int) + n + 4) := by unfold Hid; omega
  have q1 : IntKind.i64.wrap ((k : Int) + n + 4) = (k : Int) + n + 4 := by rw [IntKind.wrap_i64]; omega
  have p1 : (0 : Int) ≤ (k : Int) + n := by omega
  have p2 : (k : Int) + n ≤ (k : Int) + n + 4 := by omega
  have p3 : (0 : Int) ≤ (k : Int) + n + 4 := by omega
  have p4 : (k : Int) + n + 4 ≤ (c : Int) := by omega
  go_region_held3 (fun w' => Hid (Below w.heap.size w w'))
    (first | assumption | exact hid (Below.drew (Hid.out (by assumption))) | exact hid (Below.trans (Hid.out (by assumption)) (hbo.mono (Below.size (Hid.out (by assumption))))))
    (first
      | (go_at_call 121; ((with_reducible refine (HS.out _ ?_).mono ?_); (first | exact Hid.out (by assumption) | exact Below.drew (Hid.out (by assumption))); rintro e w5 ⟨A2, c2, rfl, hS2, hbo⟩))
      | (go_at_call 118; rw [E1.out, E2.out]; ((with_reducible refine (HE.out _ _ _ ?_ ?_).mono ?_); (first | exact Hid.out (by assumption) | exact Below.drew (Hid.out (by assumption))); (first | exact Hid.out hS2 | exact SlA.below (Hid.out hS2) (Below.refl _ _).drew); rintro e w6 ⟨rfl, rfl⟩)))
  all_goals
    rename_i hLast
    clear HE HS
    cases d
    all_goals
      go_wp2
      refine bodyPost_ret (results_tmp3 rfl _ _ _) rfl ?_
      first
      | exact ⟨rfl, hLast.out⟩
      | (simp only [if_true]; rw [E3.out]; exact ⟨rfl, hLast.out⟩)

/-- Some of a slice's bytes. -/
theorem sla_part {w : World} {b off c : Nat} {l : List UInt8} (hc : l.length ≤ c) (hc2 : c ≤ 9223372036854775807) (hh : Holds w b off l) (k n : Nat) (h : k + n ≤ l.length) : SlA w (.slice (some ⟨b, off + k, none⟩) n (c - k)) ((l.drop k).take n) := by
  have hl : ((l.drop k).take n).length = n := by rw [List.length_take, List.length_drop]; omega
  refine ⟨_, c - k, by rw [hl], by rw [hl]; omega, by omega, fun _ => ⟨b, off + k, rfl, fun i hi => ?_⟩, fun h => by cases h⟩
  rw [hl] at hi
  have := (hh.drop k) i (by rw [List.length_drop]; omega)
  rw [this]
  simp only [List.getD_eq_getElem?_getD, List.getElem?_take_of_lt hi]

theorem look_any (v : Value) (l : List UInt8) (hlen : l.length ≤ 1000000) (w : World) (h : SlA w v l) :
    Calls Tryz.prog 126 #[v] w (LEnd w l (nextM l)) := by
  have hSA := h
  obtain ⟨A, c, rfl, h2, h3, h4, h5⟩ := h
  have hH := sla_head hSA
  obtain ⟨A', c', e, g2, g3, g4, g5⟩ := hH
  injection e with e1 e0 e2
  subst e1; subst e2
  have HT := take_any A c (l.take 9) (by rw [List.length_take]; omega) g2 g3 w g4
  rw [← e0] at HT
  unfold nextM
  cases hk : tk l with
  | none =>
    have ht := tk_head_none hk
    rw [ht] at HT
    have HB : ∀ W, Below w.heap.size w W → Calls Tryz.prog 158 #[.slice A (min l.length 9) c] W fun e w' => e = .returned (.bool (openB l)) ∧ w' = W := fun W hW => by
      have := begun_any A c (l.take 9) (by rw [List.length_take]; omega) W (g4.below hW)
      rw [← e0, open_head] at this
      exact this
    have := look_none A l.length (min l.length 9) c (openB l) rfl h2 h3 h5 w HT HB
    cases ho : openB l
    · rw [ho] at this
      simp only [Bool.false_eq_true, if_false] at this ⊢
      exact this
    · rw [ho] at this
      simp only [if_true] at this ⊢
      exact this
  | some p =>
    obtain ⟨n, t⟩ := p
    obtain ⟨k, k1, k2, k3, ht, hm⟩ := tkGo_more 9 0 l n t hk
    have hn63 : n < 9223372036854775808 := by
      obtain ⟨k', _, q2, _, _, q5⟩ := tkGo_rest 9 0 l n t hk
      exact Nat.lt_of_lt_of_le q5 (Nat.pow_le_pow_right (by decide) q2 : 128 ^ k' ≤ 128 ^ 9)
    have hno : openB l = false := by
      cases ho : openB l with
      | false => rfl
      | true =>
        have := tkGo_open 9 0 l (by unfold openB at ho; simp only [Bool.and_eq_true] at ho; exact ho.2)
        unfold tk at hk
        rw [this] at hk; cases hk
    have hhead : tk (l.take 9) = some (n, (l.take 9).drop k) := hm 9 k2
    have hrl : ((l.take 9).drop k).length = min l.length 9 - k := by rw [List.length_drop, List.length_take, Nat.min_comm]
    rw [hhead] at HT
    have hl0 : 0 < l.length := by omega
    obtain ⟨b, off, rfl, hh⟩ := h4 hl0
    have HH : HeadSome w (some ⟨b, off, none⟩) (min l.length 9) c n (min l.length 9 - k) := by
      unfold HeadSome
      refine HT.mono ?_
      rintro e w' ⟨v, rfl, hR, hb⟩
      obtain ⟨A2, c2, rfl, _⟩ := hR.sla
      rw [hrl]
      exact ⟨A2, c2, rfl, hb⟩
    simp only [hno, Bool.false_eq_true, if_false]
    by_cases hg : 65536 < n
    · rw [if_pos hg]
      exact look_great _ l.length (min l.length 9) c n _ rfl h2 h3 hg hn63 w HH
    · rw [if_neg hg]
      have htl : t.length = l.length - k := by rw [ht, List.length_drop]
      by_cases hs : t.length < n + 4
      · rw [if_pos hs]
        exact look_short _ l.length (min l.length 9) c n _ k rfl h2 h3 (by omega) (by omega) (by omega) w HH
      · rw [if_neg hs]
        have ex : t.take n = (l.drop k).take n := by rw [ht]
        have es : (t.drop n).take 4 = (l.drop (k + n)).take 4 := by rw [ht, List.drop_drop]
        have er : t.drop (n + 4) = l.drop (k + n + 4) := by rw [ht, List.drop_drop]; congr 1
        have q1 := sla_part h2 h3 hh k n (by omega)
        have q2 := sla_part h2 h3 hh (k + n) 4 (by omega)
        have hxl : ((l.drop k).take n).length = n := by rw [List.length_take, List.length_drop]; omega
        have hsl : ((l.drop (k + n)).take 4).length = 4 := by rw [List.length_take, List.length_drop]; omega
        have hrl2 : (l.drop (k + n + 4)).length = l.length - (k + n + 4) := List.length_drop
        have HL := look_full b off l.length (min l.length 9) c n (min l.length 9 - k) k rfl h2 h3 (by omega) (by omega) (by omega)
          (decide ((l.drop (k + n)).take 4 = byW 4 (sumN ((l.drop k).take n)))) (byW 4 (sumN ((l.drop k).take n))) w HH
          (fun W hW => (sealOf_any _ _ (by omega) W (q1.below hW)).mono fun e w' ⟨v', he, hR, hb⟩ => by
            obtain ⟨A2, c2, rfl, hx⟩ := hR.sla
            rw [byW_len] at hx he
            exact ⟨A2, c2, he, ⟨A2, c2, by rw [byW_len], by rw [byW_len]; exact hx.1, hx.2⟩, hb⟩)
          (fun W A2 c2 hW hv => by
            obtain ⟨A3, c3, e3, _, _, g3, _⟩ := q2.below hW
            obtain ⟨A4, c4, e4, _, _, g4, _⟩ := hv
            have := equal_any A3 A4 c3 c4 _ _ W g3 g4
            rw [← e3, ← e4] at this
            exact this)
        rw [ex, es, er]
        by_cases hq : byW 4 (sumN ((l.drop k).take n)) = (l.drop (k + n)).take 4
        · rw [if_pos hq]
          rw [decide_eq_true hq.symm] at HL
          refine HL.mono ?_
          rintro e w' ⟨rfl, hb⟩
          refine ⟨some ⟨b, off + k, none⟩, c - k, ?_, ?_, hb⟩
          · rw [hxl, hrl2, show l.length - (l.length - (k + n + 4)) = k + n + 4 by omega]
            rfl
          · rw [hxl]; exact q1.below hb
        · rw [if_neg hq]
          rw [decide_eq_false (fun e => hq e.symm)] at HL
          exact HL
end Go.Proofs.YtjbjdkginemedaaGreatDoor

/- sum.Next at any bytes. Conditions: the slice holds its bytes, a million at most. -/
namespace Go.Proofs.YtjbjdkginemedaaGreatDoor
open Go.RowKit

theorem clone_sla (v : Value) (l : List UInt8) (hl : l.length ≤ 1000000) (w : World) (h : SlA w v l) :
    Calls Tryz.prog 72 #[v] w fun e w' => ∃ v', e = .returned v' ∧ Row w' w.heap.size v' l ∧ Below w.heap.size w w' := by
  obtain ⟨A, c, rfl, _, _, h4, _⟩ := h
  exact clone_any A c l hl w h4

def NxEnd (w : World) : Nx → Ending → World → Prop
  | .whole x r, e, w' => ∃ v1 v2, e = .returned (.tuple #[v1, v2, .int .i64 0]) ∧ SlA w' v1 x ∧ SlA w' v2 r ∧ Below w.heap.size w w'
  | .torn, e, w' => e = .returned (.tuple #[.slice none 0 0, .slice none 0 0, .int .i64 1]) ∧ Below w.heap.size w w'
  | .bad, e, w' => e = .returned (.tuple #[.slice none 0 0, .slice none 0 0, .int .i64 2]) ∧ Below w.heap.size w w'

set_option maxHeartbeats 1000000 in
theorem next_not (v : Value) (k : Int) (hk : k = 1 ∨ k = 2) (w : World) (HL : Calls Tryz.prog 126 #[v] w fun e w' => e = .returned (.tuple #[.slice none 0 0, .int .i64 0, .int .i64 k]) ∧ Below w.heap.size w w') :
    Calls Tryz.prog 70 #[v] w fun e w' => e = .returned (.tuple #[.slice none 0 0, .slice none 0 0, .int .i64 k]) ∧ Below w.heap.size w w' := by
  have HL := hid HL
  rcases hk with rfl | rfl
  all_goals
    go_enter Tryz.func70, Tryz.ntmps70
    go_wp2_with (go_at_call 126; refine HL.out.mono ?_; rintro e w1 ⟨rfl, hb⟩)
    refine bodyPost_ret (results_tmp3 rfl _ _ _) rfl ?_
    exact ⟨rfl, hb⟩

/-- What Next walks by: the body's and the rest's copies. -/
structure NextHyp (w : World) (A' : Option Addr) (xl c' : Nat) (x : List UInt8) (v2 : Value) (r : List UInt8) : Prop where
  c1 : ∀ W, SlA W (.slice A' xl c') x → Calls Tryz.prog 72 #[.slice A' xl c'] W fun e w' => ∃ v', e = .returned v' ∧ Hid (SlA w' v' x) ∧ Below W.heap.size W w'
  c2 : ∀ W, Below w.heap.size w W → Calls Tryz.prog 72 #[v2] W fun e w' => ∃ v', e = .returned v' ∧ Hid (SlA w' v' r) ∧ Below W.heap.size W w'

set_option maxRecDepth 100000 in
set_option maxHeartbeats 4000000 in
theorem next_in (b off m c s : Nat) (hsm : s ≤ m) (_hmc : m ≤ c) (hsc : s < c) (_hc : c ≤ 9223372036854775807) (x r : List UInt8) (w : World)
    (HL : Calls Tryz.prog 126 #[.slice (some ⟨b, off, none⟩) m c] w fun e w' => ∃ A' xl c', e = .returned (.tuple #[.slice A' xl c', .int .i64 (s : Int), .int .i64 0]) ∧ Hid (SlA w' (.slice A' xl c') x) ∧ Below w.heap.size w w' ∧ Hid (NextHyp w A' xl c' x (.slice (some ⟨b, off + s, none⟩) (m - s) (c - s)) r)) :
    Calls Tryz.prog 70 #[.slice (some ⟨b, off, none⟩) m c] w (NxEnd w (.whole x r)) := by
  have HL := hid HL
  have p1 : (0 : Int) ≤ (s : Int) := by omega
  have p2 : (s : Int) ≤ (m : Int) := by omega
  go_enter Tryz.func70, Tryz.ntmps70
  go_wp2_with (go_at_call 126; refine HL.out.mono ?_; rintro e w1 ⟨A', xl, c', rfl, hS0, hb, HN⟩)
  have hHeld := hid hb
  go_region_held3 (fun w' => Hid (Below w.heap.size w w'))
    (first | assumption | exact hid (Below.drew (Hid.out (by assumption))) | exact hid (Below.trans (Hid.out (by assumption)) (hbo.mono (Below.size (Hid.out (by assumption))))))
    (first
      | (go_at_call 72; ((with_reducible refine (HN.out.c1 _ ?_).mono ?_); (first | exact hS0.out | exact SlA.below hS0.out (Below.refl _ _).drew); rintro e w5 ⟨v1, rfl, hS1, hbo⟩))
      | (go_at_call 72; ((with_reducible refine (HN.out.c2 _ ?_).mono ?_); (first | exact Hid.out (by assumption) | exact Below.drew (Hid.out (by assumption))); rintro e w6 ⟨v2, rfl, hS2, hbo⟩)))
  rename_i hLast
  go_wp2
  refine bodyPost_ret (results_tmp3 rfl _ _ _) rfl ?_
  exact ⟨v1, v2, rfl, hS1.out.below hbo, hS2.out, hLast.out⟩

set_option maxRecDepth 100000 in
set_option maxHeartbeats 4000000 in
theorem next_in_all (b off s : Nat) (hc : s ≤ 9223372036854775807) (x r : List UInt8) (w : World)
    (HL : Calls Tryz.prog 126 #[.slice (some ⟨b, off, none⟩) s s] w fun e w' => ∃ A' xl c', e = .returned (.tuple #[.slice A' xl c', .int .i64 (s : Int), .int .i64 0]) ∧ Hid (SlA w' (.slice A' xl c') x) ∧ Below w.heap.size w w' ∧ Hid (NextHyp w A' xl c' x (.slice (some ⟨b, off, none⟩) 0 0) r)) :
    Calls Tryz.prog 70 #[.slice (some ⟨b, off, none⟩) s s] w (NxEnd w (.whole x r)) := by
  have HL := hid HL
  have p1 : (0 : Int) ≤ (s : Int) := by omega
  go_enter Tryz.func70, Tryz.ntmps70
  go_wp2_with (go_at_call 126; refine HL.out.mono ?_; rintro e w1 ⟨A', xl, c', rfl, hS0, hb, HN⟩)
  have hHeld := hid hb
  go_region_held3 (fun w' => Hid (Below w.heap.size w w'))
    (first | assumption | exact hid (Below.drew (Hid.out (by assumption))) | exact hid (Below.trans (Hid.out (by assumption)) (hbo.mono (Below.size (Hid.out (by assumption))))))
    (first
      | (go_at_call 72; ((with_reducible refine (HN.out.c1 _ ?_).mono ?_); (first | exact hS0.out | exact SlA.below hS0.out (Below.refl _ _).drew); rintro e w5 ⟨v1, rfl, hS1, hbo⟩))
      | (go_at_call 72; ((with_reducible refine (HN.out.c2 _ ?_).mono ?_); (first | exact Hid.out (by assumption) | exact Below.drew (Hid.out (by assumption))); rintro e w6 ⟨v2, rfl, hS2, hbo⟩)))
  rename_i hLast
  go_wp2
  refine bodyPost_ret (results_tmp3 rfl _ _ _) rfl ?_
  exact ⟨v1, v2, rfl, hS1.out.below hbo, hS2.out, hLast.out⟩

theorem next_any (v : Value) (l : List UInt8) (hlen : l.length ≤ 1000000) (w : World) (h : SlA w v l) :
    Calls Tryz.prog 70 #[v] w (NxEnd w (nextM l)) := by
  have HL := look_any v l hlen w h
  cases hn : nextM l with
  | torn => rw [hn] at HL; exact next_not v 1 (.inl rfl) w HL
  | bad => rw [hn] at HL; exact next_not v 2 (.inr rfl) w HL
  | whole x r =>
    rw [hn] at HL
    obtain ⟨k, k1, k2, k3, k4, k5, k6⟩ := next_less hn
    obtain ⟨A, c, rfl, h2, h3, h4, h5⟩ := h
    obtain ⟨b, off, rfl, hh⟩ := h4 (by omega)
    obtain ⟨s, hs⟩ : ∃ s, l.length - r.length = s := ⟨_, rfl⟩
    have hrl : r.length = l.length - (k + x.length + 4) := by rw [k4, List.length_drop]
    have hsk : s = k + x.length + 4 := by omega
    have hc1 : ∀ (A' : Option Addr) (c' : Nat) W, SlA W (.slice A' x.length c') x → Calls Tryz.prog 72 #[.slice A' x.length c'] W fun e w' => ∃ v', e = .returned v' ∧ Hid (SlA w' v' x) ∧ Below W.heap.size W w' :=
      fun A' c' W hW => (clone_sla _ x (by omega) W hW).mono fun e w' ⟨v', he, hR, hb⟩ => ⟨v', he, hR.sla, hb⟩
    by_cases hsc : s < c
    · refine next_in b off l.length c s (by omega) h2 hsc h3 x r w (HL.mono ?_)
      rintro e w' ⟨A', c', rfl, hS, hb⟩
      refine ⟨A', x.length, c', by rw [hs], hS, hb, ⟨hc1 A' c', fun W hW => ?_⟩⟩
      have q := sla_part h2 h3 hh s (l.length - s) (by omega)
      have er : (l.drop s).take (l.length - s) = r := by rw [List.take_of_length_le (by rw [List.length_drop]; omega), hsk, k4]
      rw [er] at q
      exact (clone_sla _ r (by omega) W (q.below hW)).mono fun e w' ⟨v', he, hR, hb⟩ => ⟨v', he, hR.sla, hb⟩
    · have e1 : c = s := by omega
      have e2 : l.length = s := by omega
      have e3 : r = [] := List.eq_nil_of_length_eq_zero (by omega)
      subst e3
      rw [e2] at HL
      rw [e2, e1]
      rw [e1] at HL
      refine next_in_all b off s (by omega) x [] w (HL.mono ?_)
      rintro e w' ⟨A', c', rfl, hS, hb⟩
      refine ⟨A', x.length, c', by rw [e2]; rfl, hS, hb, ⟨hc1 A' c', fun W hW => ?_⟩⟩
      exact (clone_sla _ [] (by simp) W ⟨_, 0, rfl, by simp, by omega, fun h => absurd h (by simp), fun h => by cases h⟩).mono fun e w' ⟨v', he, hR, hb⟩ => ⟨v', he, hR.sla, hb⟩
end Go.Proofs.YtjbjdkginemedaaGreatDoor
