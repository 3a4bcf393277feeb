/- slices.Chunk of 4096 bytes: what its iterator hands to a loop. Conditions: none of ours but the slice's own shape. -/
import Derived.Test.YtadehoibjpmhhaaDoorSH
import Derived.RangeFuncNested
import Derived.RangeFuncBound
import Derived.RangeFuncCalls
import Derived.RangeFuncLeaves
import Derived.Shelf.Abstract
import Derived.Shelf.RegionOpen
import Derived.OwnWalkIn
import Derived.TacticsInMore
import Derived.LoopNIn
import Derived.LoopIn
namespace Go.Proofs.YtadehoibjpmhhaaDoor
open Go.RowKit Go.Shelf
attribute [local go_sem] Oper.semAt_some

/-- The j-th part of a slice of len bytes. -/
def chV (b off len j : Nat) : Value := .slice (some ⟨b, off + 4096 * j, none⟩) (min 4096 (len - 4096 * j)) (min 4096 (len - 4096 * j))
/-- What a round keeps: what lay below n₀, and the two boxes of the iterator. -/
def ChK (n₀ Bs : Nat) (W W' : World) : Prop := Below n₀ W W' ∧ W'.heap[Bs]? = W.heap[Bs]? ∧ W'.heap[Bs + 1]? = W.heap[Bs + 1]?
theorem chK_refl (n₀ Bs : Nat) (W : World) : ChK n₀ Bs W W := ⟨Below.refl _ _, rfl, rfl⟩
theorem chK_t {n₀ Bs : Nat} {A B C : World} (h : ChK n₀ Bs A B) (k : ChK n₀ Bs B C) : ChK n₀ Bs A C := ⟨h.1.trans k.1, k.2.1.trans h.2.1, k.2.2.trans h.2.2⟩

set_option maxRecDepth 100000 in
set_option maxHeartbeats 2000000 in
theorem chunk1_in (F : Fence) (n : Nat) (h109 : F.fn 109) (hro : F.round = none) (hn : 1 ≤ n) (l Bs n₀ b off len cap cnt : Nat) (hlc : len ≤ cap) (hlen : len ≤ 1000000) (_hcap : cap ≤ 9223372036854775807) (hcnt : cnt = (len + 4095) / 4096) (J Jx : List Nat → World → Prop) (hJd : ∀ s A, J s A → J s A.drew)
    (hY : ∀ pre x W, J pre W → pre.length < cnt → YieldAt F (n - 1) Tryd.prog l #[chV b off len x] W fun e W' =>
      (e = .returned (.bool true) ∧ J (pre ++ [x]) W' ∧ ChK n₀ Bs W W') ∨ (e = .returned (.bool false) ∧ Jx (pre ++ [x]) W'))
    (W : World) (hB1 : W.cell? ⟨Bs, 0, none⟩ = some (.slice (some ⟨b, off, none⟩) len cap)) (hB2 : W.cell? ⟨Bs + 1, 0, none⟩ = some (.int .i64 4096)) (h0 : J [] W) :
    CallsIn F n Tryd.prog 109 #[.func (.yield l) #[] #[], .pointer (some ⟨Bs, 0, none⟩), .pointer (some ⟨Bs + 1, 0, none⟩)] W fun e W' => (∃ v, e = .returned v) ∧
      ((∃ ys, ys = List.range cnt ∧ J ys W') ∨ (∃ pre, (∃ k, k ≤ cnt ∧ pre = List.range k) ∧ Jx pre W')) := by
  refine callsIn_of_wp Tryd.func109 rfl h109 ?_ hro
  simp only [Tryd.ntmps109, List.size_toArray, List.length_cons, List.length_nil, Nat.reduceAdd, Nat.reduceSub, Array.replicate_succ, Array.replicate_zero, List.push_toArray, List.append_toArray, List.nil_append, List.cons_append]
  gi_wp2
  gi_loopw [4] (fun i wr => ∃ k ii : Nat, Hid (ii = 4096 * k) ∧ Hid (k ≤ cnt) ∧ i = .int .i64 ii ∧ J (List.range k) wr ∧ ChK n₀ Bs W wr)
    (fun i _ => len + 4096 - (intOf i).toNat)
  case atStart => exact ⟨0, 0, rfl, Nat.zero_le _, rfl, h0, chK_refl _ _ _⟩
  case round =>
    obtain ⟨k, ii, HI, HK, rfl, hJs, hnx⟩ := hrel
    have c1 : wr.cell? ⟨Bs, 0, none⟩ = some (.slice (some ⟨b, off, none⟩) len cap) := (World.cell?_of_block (w := W) hnx.2.1).trans hB1
    have c2 : wr.cell? ⟨Bs + 1, 0, none⟩ = some (.int .i64 4096) := (World.cell?_of_block (w := W) hnx.2.2).trans hB2
    by_cases hlt : ii < len
    · obtain ⟨fn, tmps, assign, body, hy, hR⟩ := hY _ k wr.drew (hJd _ _ hJs) (by have := HI.out; rw [List.length_range]; omega)
      obtain ⟨ee, hee⟩ : ∃ ee : Nat, (min 4096 ((len - ii : Nat) : Int)) = ee := ⟨min 4096 (len - ii), by omega⟩
      have he1 : 1 ≤ ee := by omega
      have he2 : ii + ee ≤ len := by omega
      have hch : chV b off len k = .slice (some ⟨b, off + ii, none⟩) ee ee := by
        unfold chV; rw [← HI.out, show min 4096 (len - ii) = ee by omega]
      rw [hch] at hy
      have HE := hid hee
      clear hB1 hB2 hch
      gi_wp2
      gi_region
      all_goals (try (rw [hee]))
      all_goals clear hee
      all_goals gi_wp2
      all_goals
        refine hR.mono ?_
        rintro e W3 (⟨rfl, hJ3, hk3⟩ | ⟨rfl, hJx3⟩)
        · have d1 : W3.cell? ⟨Bs, 0, none⟩ = some (.slice (some ⟨b, off, none⟩) len cap) := (World.cell?_of_block (w := wr.drew) hk3.2.1).trans c1
          have d2 : W3.cell? ⟨Bs + 1, 0, none⟩ = some (.int .i64 4096) := (World.cell?_of_block (w := wr.drew) hk3.2.2).trans c2
          gi_wp2
          go_roundw
          case rel => exact ⟨k + 1, ii + 4096, by have := HI.out; unfold Hid; omega, by have := HI.out; unfold Hid; omega, by go_num, by rw [List.range_succ]; exact hJ3, chK_t hnx (chK_t ⟨(Below.refl _ _).drew, rfl, rfl⟩ hk3)⟩
          case measure => simp [intOf]; omega
        · gi_wp2
          refine bodyPost_ret (results_none rfl _ _ _) rfl ?_
          exact ⟨⟨_, rfl⟩, .inr ⟨_, ⟨k + 1, by have := HI.out; omega, List.range_succ.symm⟩, hJx3⟩⟩
    · clear hB1 hB2
      gi_wp2
      go_end0
      have hk : k = cnt := by have := HI.out; have := HK.out; omega
      exact ⟨⟨_, rfl⟩, .inl ⟨_, rfl, hk ▸ hJs⟩⟩
end Go.Proofs.YtadehoibjpmhhaaDoor
