/- Several texts in one: UB UC. Conditions: as each theorem names them. -/
import Derived.Test.YtjbjdkginemedaaGreatDoorQT1
import Derived.RangeFuncNested
import Derived.RangeFuncBound
import Derived.RangeFuncCalls
import Derived.RangeFuncLeaves
import Derived.RangeFuncBox
import Derived.Shelf.Abstract
import Derived.Shelf.RegionOpen
import Derived.OwnWalkIn
import Derived.TacticsInMore
import Derived.LoopNIn
import Derived.LoopIn
import Derived.Test.YtjbjdkginemedaaGreatDoorQT5
import Derived.Test.YtjbjdkginemedaaGreatDoorQE0
import Derived.Test.YtjbjdkginemedaaGreatDoorNR
import Derived.Test.YtjbjdkginemedaaGreatDoorQT4
/- table.pairs: what its iterator hands to a loop; follows where an entry may not stand behind. Conditions: the list stands. -/
namespace Go.Proofs.YtjbjdkginemedaaGreatDoor
open Go.RowKit Go.Shelf
attribute [local go_sem] Oper.semAt_some

/-- What a round keeps: what lay below n₀, and the iterator's box. -/
def PrK (n₀ Bp : Nat) (W W' : World) : Prop := Below n₀ W W' ∧ W'.heap[Bp]? = W.heap[Bp]?
theorem prK_refl (n₀ Bp : Nat) (W : World) : PrK n₀ Bp W W := ⟨Below.refl _ _, rfl⟩
theorem prK_t {n₀ Bp : Nat} {A B C : World} (h : PrK n₀ Bp A B) (k : PrK n₀ Bp B C) : PrK n₀ Bp A C := ⟨h.1.trans k.1, k.2.trans h.2⟩

set_option maxRecDepth 100000 in
set_option maxHeartbeats 2000000 in
theorem pairs1_in (n : Nat) (hn : 1 ≤ n) (l Bp n₀ b off c m : Nat) (A : Option Addr) (hA : 0 < m → A = some ⟨b, off, none⟩) (hm : m ≤ 1000000) (hb0 : 0 < m → b < n₀) (u : Nat → Value) (J Jx : List (Fin m) → World → Prop) (hJd : ∀ s A, J s A → J s A.drew)
    (hY : ∀ pre x W, J pre W → pre.length < m → YieldAt Fence.wide (n - 1) Tryz.prog l #[u (2 * x.val), u (2 * x.val + 1)] W fun e W' =>
      (e = .returned (.bool true) ∧ J (pre ++ [x]) W' ∧ PrK n₀ Bp W W') ∨ (e = .returned (.bool false) ∧ Jx (pre ++ [x]) W'))
    (W : World) (hB1 : W.cell? ⟨Bp, 0, none⟩ = some (.slice A (2 * m) c)) (hu : ∀ j, j < 2 * m → W.cell? ⟨b, off + j, none⟩ = some (u j)) (h0 : J [] W) :
    CallsIn Fence.wide n Tryz.prog 161 #[.func (.yield l) #[] #[], .pointer (some ⟨Bp, 0, none⟩)] W fun e W' => (∃ v, e = .returned v) ∧
      ((∃ ys, ys = List.finRange m ∧ J ys W') ∨ (∃ pre, (∃ k, k ≤ m ∧ pre = (List.finRange m).take k) ∧ Jx pre W')) := by
  have HU := hid hu
  refine callsIn_of_wp Tryz.func161 rfl trivial ?_ rfl
  simp only [Tryz.ntmps161, List.size_toArray, List.length_cons, List.length_nil, Nat.reduceAdd, Nat.reduceSub, Array.replicate_succ, Array.replicate_zero, List.push_toArray, List.append_toArray, List.nil_append, List.cons_append]
  gi_wp2
  gi_loopw [3] (fun i wr => ∃ k ii : Nat, Hid (ii = 2 * k) ∧ Hid (k ≤ m) ∧ i = .int .i64 ii ∧ J ((List.finRange m).take k) wr ∧ PrK n₀ Bp W wr)
    (fun i _ => 2 * m + 2 - (intOf i).toNat)
  case atStart => exact ⟨0, 0, rfl, Nat.zero_le _, rfl, h0, prK_refl _ _ _⟩
  case round =>
    obtain ⟨k, ii, HI, HK, rfl, hJs, hnx⟩ := hrel
    have c1 : wr.cell? ⟨Bp, 0, none⟩ = some (.slice A (2 * m) c) := (World.cell?_of_block (w := W) hnx.2).trans hB1
    obtain ⟨mm, hmm⟩ : ∃ mm, 2 * m = mm := ⟨_, rfl⟩
    have HM := hid hmm
    rw [hmm] at c1
    have hiw : IntKind.i64.wrap ((ii : Int) + 1) = (ii : Int) + 1 := by rw [IntKind.wrap_i64]; have := HI.out; have := HK.out; omega
    have hiw2 : IntKind.i64.wrap ((ii : Int) + 2) = (ii : Int) + 2 := by rw [IntKind.wrap_i64]; have := HI.out; have := HK.out; omega
    by_cases hlt : k < m
    · have hb0 := hb0 (by omega)
      rw [hA (by omega)] at c1
      have hz1 : (ii : Int) + 1 < (mm : Int) := by have := HI.out; omega
      have hz2 : (ii : Int) < (mm : Int) := by omega
      have hz3 : (0 : Int) ≤ (ii : Int) := by omega
      have hz4 : (0 : Int) ≤ (ii : Int) + 1 := by omega
      have hz5 : ((ii : Int) + 1).toNat = ii + 1 := by omega
      have a0 : wr.cell? ⟨b, off + ii, none⟩ = some (u ii) := (hnx.1.cell (p := ⟨b, off + ii, none⟩) hb0).trans (HU.out ii (by have := HI.out; omega))
      have a1 : wr.cell? ⟨b, off + (ii + 1), none⟩ = some (u (ii + 1)) := (hnx.1.cell (p := ⟨b, off + (ii + 1), none⟩) hb0).trans (HU.out (ii + 1) (by have := HI.out; omega))
      obtain ⟨fn, tmps, assign, body, hy, hR⟩ := hY _ ⟨k, hlt⟩ wr.drew (hJd _ _ hJs) (by rw [List.length_take, List.length_finRange]; omega)
      have hui : u (2 * k) = u ii := by rw [HI.out]
      have hui1 : u (2 * k + 1) = u (ii + 1) := by rw [HI.out]
      rw [show ((⟨k, hlt⟩ : Fin m).val) = k from rfl, hui, hui1] at hy
      have HT : Hid ((List.finRange m).take k ++ [⟨k, hlt⟩] = (List.finRange m).take (k + 1)) := by
        show _ = _
        rw [List.take_add_one, List.getElem?_eq_getElem (by rw [List.length_finRange]; exact hlt)]
        simp
      rw [HT.out] at hR
      clear hB1 hu hui hui1 hm hmm hA
      have mixed : Tryz.prog.follows .mixedOrders = true := by kernel_rfl
      have hR2 := hR.mono (R' := fun e W' => ∃ b, e = .returned (.bool b) ∧ Hid ((b = true ∧ J ((List.finRange m).take (k + 1)) W' ∧ PrK n₀ Bp wr.drew W') ∨ (b = false ∧ Jx ((List.finRange m).take (k + 1)) W'))) (fun e W' h => by
        rcases h with ⟨h1, h2⟩ | ⟨h1, h2⟩
        · exact ⟨true, h1, .inl ⟨rfl, h2⟩⟩
        · exact ⟨false, h1, .inr ⟨rfl, h2⟩⟩)
      clear hR
      gi_wp2
      gi_region_with_o (go_simp; refine hR2.mono ?_; rintro e W3 ⟨bb, rfl, H3⟩)
      all_goals
        rcases H3.out with ⟨rfl, hJ3, hk3⟩ | ⟨rfl, hJx3⟩
        · have HJ3 := hid hJ3
          have HK3 := hid hk3
          clear hJ3 hk3 H3 hR2
          gi_wp2
          go_roundw
          case rel => exact ⟨k + 1, ii + 2, by have := HI.out; unfold Hid; omega, by unfold Hid; omega, by go_num, HJ3.out, prK_t hnx (prK_t ⟨(Below.refl _ _).drew, rfl⟩ HK3.out)⟩
          case measure => have h1 := HI.out; have h2 := HM.out; simp [intOf]; omega
        · have HJ3 := hid hJx3
          clear hJx3 H3 hR2
          gi_wp2
          refine bodyPost_ret (results_none rfl _ _ _) rfl ?_
          exact ⟨⟨_, rfl⟩, .inr ⟨_, ⟨k + 1, by omega, rfl⟩, HJ3.out⟩⟩
    · have hz1 : ¬ ((ii : Int) + 1 < (mm : Int)) := by have := HI.out; omega
      clear hB1 hu hmm hA
      gi_wp2
      go_end0
      have hk : k = m := by have := HK.out; omega
      have e : (List.finRange m).take k = List.finRange m := by rw [hk, List.take_of_length_le (by rw [List.length_finRange]; exact Nat.le_refl _)]
      rw [e] at hJs
      first | exact ⟨⟨_, rfl⟩, .inl ⟨_, rfl, hJs⟩⟩ | exact ⟨⟨_, rfl⟩, .inl hJs⟩

/-- table.pairs: the list is boxed; the closure holds the box. -/
theorem pairs_any (A : Option Addr) (n c : Nat) (w : World) :
    Calls Tryz.prog 128 #[.slice A n c] w fun e w' => e = .returned (.func (.func 161) #[] #[.pointer (some ⟨w.heap.size, 0, none⟩)]) ∧ w' = w.alloc (.cells #[.slice A n c] 79) := by
  have hmf : ∀ (fn : Fn) (first cap : Array Value) (w : World), (Instr.makeFunc fn first cap).run Tryz.prog w = .ok (.func fn first cap) w := fun _ _ _ _ => rfl
  go_enter Tryz.func128, Tryz.ntmps128
  go_wp2
  go_ret
  exact ⟨rfl, rfl⟩

set_option maxRecDepth 100000 in
set_option maxHeartbeats 8000000 in
theorem follows_start (K : CT) (u : Value) (p : Nat) (hp : 0 < p) (w : World) :
    Calls Tryz.prog 130 #[.slice none 0 0, .agg (entW K u p)] w fun e w' => e = .returned (.bool false) ∧ Below w.heap.size w w' := by
  have hW : Hid (Blk (w.alloc (.cells (entW K u p) 106)) w.heap.size 106 (entW K u p) ∧ Below w.heap.size w (w.alloc (.cells (entW K u p) 106))) := ⟨Blk.new _ _ _, below_new _ _⟩
  obtain ⟨z0, z1, z2, z3, z4, z5, z6, z7, z8, z9⟩ := ent_words hW.out.1
  have hz : ((p : Int) == 0) = false := by rw [beq_eq_false_iff_ne]; omega
  go_enter Tryz.func130, Tryz.ntmps130
  go_wp2
  go_ret
  exact ⟨rfl, hW.out.2⟩

set_option maxRecDepth 100000 in
set_option maxHeartbeats 8000000 in
theorem follows_gap (g m cap : Nat) (hm : m ≤ 1000000) (j : Nat) (hj : m = j + 1) (K0 K1 : CT) (A0 A1 : Option Addr) (c0 c1 : Nat) (l0 l1 : List UInt8) (p0 p1 : Nat) (hk : ¬ Lib.compareBytes l0 l1 < 0) (w : World) (h0 : HoldsA w A0 l0) (h1 : HoldsA w A1 l1)
    (q0 : w.cell? ⟨g, j * 10, none⟩ = some (.slice A0 l0.length c0)) (q1 : w.cell? ⟨g, j * 10 + 1, none⟩ = some (.string K0.r)) (q2 : w.cell? ⟨g, j * 10 + 2, none⟩ = some (.string K0.f)) (q3 : w.cell? ⟨g, j * 10 + 3, none⟩ = some (.string K0.q)) (q4 : w.cell? ⟨g, j * 10 + 4, none⟩ = some (.int .i64 K0.t)) (q5 : w.cell? ⟨g, j * 10 + 5, none⟩ = some (.int .i64 K0.k)) (q6 : w.cell? ⟨g, j * 10 + 6, none⟩ = some (.int .i64 K0.vk)) (q7 : w.cell? ⟨g, j * 10 + 7, none⟩ = some (.int .i64 K0.vn)) (q8 : w.cell? ⟨g, j * 10 + 8, none⟩ = some (.string K0.s)) (q9 : w.cell? ⟨g, j * 10 + 9, none⟩ = some (.int .i64 (p0 : Int))) :
    Calls Tryz.prog 130 #[.slice (some ⟨g, 0, none⟩) m cap, .agg (entW K1 (.slice A1 l1.length c1) p1)] w fun e w' => e = .returned (.bool false) ∧ Below w.heap.size w w' := by
  obtain ⟨n0, hn0⟩ : ∃ n, l0.length = n := ⟨_, rfl⟩
  obtain ⟨n1, hn1⟩ : ∃ n, l1.length = n := ⟨_, rfl⟩
  obtain ⟨o, ho⟩ : ∃ o, Lib.compareBytes l0 l1 = o := ⟨_, rfl⟩
  have HC : Hid (∀ W, Below w.heap.size w W → Calls Tryz.prog 40 #[.slice A0 n0 c0, .slice A1 n1 c1] W fun e w' => e = .returned (.int .i64 o) ∧ w' = W) := fun W hW => by
    rw [← hn0, ← hn1, ← ho]
    exact bcompare_any A0 A1 c0 c1 l0 l1 W (h0.below hW) (h1.below hW)
  rw [ho] at hk
  rw [hn0] at q0
  rw [hn1]
  have hmz : (0 : Int) < (m : Int) := by omega
  have hm1 : (m : Int) - 1 = (j : Int) := by omega
  have hjw : IntKind.i64.wrap ((j : Nat) : Int) = (j : Int) := by rw [IntKind.wrap_i64]; omega
  have hjz : (j : Int) < (m : Int) := by omega
  have hjn : j < m := by omega
  clear hn0 hn1 ho h0 h1 hm hj
  have HW : Hid (Blk (w.alloc (.cells (entW K1 (.slice A1 n1 c1) p1) 106)) w.heap.size 106 (entW K1 (.slice A1 n1 c1) p1) ∧ Below w.heap.size w (w.alloc (.cells (entW K1 (.slice A1 n1 c1) p1) 106))) := ⟨Blk.new _ _ _, below_new _ _⟩
  replace q0 := (HW.out.2.cell (p := ⟨g, j * 10, none⟩) (cell_lt q0)).trans q0
  replace q1 := (HW.out.2.cell (p := ⟨g, j * 10 + 1, none⟩) (cell_lt q1)).trans q1
  replace q2 := (HW.out.2.cell (p := ⟨g, j * 10 + 2, none⟩) (cell_lt q2)).trans q2
  replace q3 := (HW.out.2.cell (p := ⟨g, j * 10 + 3, none⟩) (cell_lt q3)).trans q3
  replace q4 := (HW.out.2.cell (p := ⟨g, j * 10 + 4, none⟩) (cell_lt q4)).trans q4
  replace q5 := (HW.out.2.cell (p := ⟨g, j * 10 + 5, none⟩) (cell_lt q5)).trans q5
  replace q6 := (HW.out.2.cell (p := ⟨g, j * 10 + 6, none⟩) (cell_lt q6)).trans q6
  replace q7 := (HW.out.2.cell (p := ⟨g, j * 10 + 7, none⟩) (cell_lt q7)).trans q7
  replace q8 := (HW.out.2.cell (p := ⟨g, j * 10 + 8, none⟩) (cell_lt q8)).trans q8
  replace q9 := (HW.out.2.cell (p := ⟨g, j * 10 + 9, none⟩) (cell_lt q9)).trans q9
  obtain ⟨z0, z1, z2, z3, z4, z5, z6, z7, z8, z9⟩ := ent_words HW.out.1
  go_enter Tryz.func130, Tryz.ntmps130
  go_upto_region 4 with (fail)
  obtain ⟨W5, hW5⟩ : ∃ W5, (w.alloc (.cells (entW K1 (.slice A1 n1 c1) p1) 106)).alloc (.cells #[.slice A0 n0 c0, .string K0.r, .string K0.f, .string K0.q, .int .i64 K0.t, .int .i64 K0.k, .int .i64 K0.vk, .int .i64 K0.vn, .string K0.s, .int .i64 p0] 106) = W5 := ⟨_, rfl⟩
  have HX : Hid (Blk W5 w.heap.size 106 (entW K1 (.slice A1 n1 c1) p1) ∧ Blk W5 (w.heap.size + 1) 106 (entW K0 (.slice A0 n0 c0) p0) ∧ Below w.heap.size w W5) := by
    rw [← hW5]
    have hb := below_new (w.alloc (.cells (entW K1 (.slice A1 n1 c1) p1) 106)) (.cells #[.slice A0 n0 c0, .string K0.r, .string K0.f, .string K0.q, .int .i64 K0.t, .int .i64 K0.k, .int .i64 K0.vk, .int .i64 K0.vn, .string K0.s, .int .i64 p0] 106)
    have h2 := Blk.new (w.alloc (.cells (entW K1 (.slice A1 n1 c1) p1) 106)) 106 (entW K0 (.slice A0 n0 c0) p0)
    have e : (w.alloc (.cells (entW K1 (.slice A1 n1 c1) p1) 106)).heap.size = w.heap.size + 1 := by simp
    rw [e] at h2
    exact ⟨HW.out.1.keep hb HW.out.1.lt, h2, HW.out.2.trans (hb.mono HW.out.2.size)⟩
  rw [hW5]
  clear hW5 q0 q1 q2 q3 q4 q5 q6 q7 q8 q9 z0 z1 z2 z3 z4 z5 z6 z7 z8 z9
  obtain ⟨x0, x1, x2, x3, x4, x5, x6, x7, x8, x9⟩ := ent_words HX.out.1
  obtain ⟨y0, y1, y2, y3, y4, y5, y6, y7, y8, y9⟩ := ent_words HX.out.2.1
  go_wp2_with (go_at_call 40; refine (HC.out _ HX.out.2.2).mono ?_; rintro e w6 ⟨rfl, rfl⟩)
  go_ret
  exact ⟨rfl, HX.out.2.2⟩
end Go.Proofs.YtjbjdkginemedaaGreatDoor

/- table.readIndex of what Build has written. Conditions: the bytes stand, right cells in order, 120 parts at most; the tables of utf8 read as they are laid. -/
namespace Go.Proofs.YtjbjdkginemedaaGreatDoor
open Go.RowKit Go.Shelf
attribute [local go_sem] Oper.semAt_some

theorem prK_b {n₀ Bp : Nat} {w : World} (h1 : n₀ ≤ w.heap.size) (h2 : Bp < w.heap.size) : ∀ (W : World) (l : Nat) (o o' : Obj), w.heap.size ≤ l → W.heap[l]? = some o → o.isCells = false → o.isWalk = false → PrK n₀ Bp W (W.putObj l o') := fun W l o o' hl hg ho hw =>
  ⟨belowK_b (w := w) h1 W l o o' hl hg ho hw, by
    have hb := belowK_b (w := w) (n₀ := w.heap.size) (Nat.le_refl _) W l o o' hl hg ho hw
    exact hb.block Bp h2⟩
theorem keeps_of_below {B : Nat} {W W' : World} (h : Below W.heap.size W W') : KeepsFrom B W W' := ⟨h.size, fun k o _ hk ho => by
  have hlt : k < W.heap.size := by
    rcases Nat.lt_or_ge k W.heap.size with h' | h'
    · exact h'
    · rw [Array.getElem?_eq_none h'] at hk; cases hk
  rw [h.block k hlt]; exact hk⟩
theorem ownsRow_succ9 {w : World} {B T z : Nat} {v : Value} {n : Nat} {xs : List Value} (h : w.ownsRow B T z v (n + 1) xs) : ∃ g cap, v = .slice (some ⟨g, 0, none⟩) (n + 1) cap := by
  rcases h.2 with ⟨_, h0⟩ | ⟨g, cap, cur, e, _⟩
  · omega
  · exact ⟨g, cap, e⟩
theorem blk_own9 {X Y : World} {row : Option Nat} {B : Nat} {T : TypeId} {xs : Array Value} (h : Blk X B T xs) (hg : X.grownBy Y row) (hr : ∀ r, row = some r → ∃ o : Obj, X.heap[r]? = some o ∧ o.isCells = false) : Blk Y B T xs := by
  refine (hg.block B h.lt fun e => ?_).trans h
  obtain ⟨o, ho, hc⟩ := hr B e.symm
  unfold Blk at h
  rw [h] at ho
  cases ho
  cases hc
theorem blk_from {β : Type} (B Bp : Nat) (T : TypeId) (xs : Array Value) : OwnFrom (β := β) B (fun _ W => Blk W Bp T xs) := fun _ _ _ _ hs hg hr => blk_own9 hs hg fun r e => (hr r e).2

theorem ent_new (x : En) (w : World) (T : TypeId) (j : Nat) (u : Value) (h : x.e[j]? = some u) : (w.alloc (.cells x.e.toArray T)).cell? ((⟨w.heap.size, 0, Option.none⟩ : Addr).add j) = some u := by
  rw [add_zero_off, Nat.zero_add, (Blk.new w T x.e.toArray).cell, List.getElem?_toArray]
  exact h
theorem headK_pos {p : List CT} : 0 < (headK p).length := by
  unfold headK keyL keyM
  simp only [List.length_append, List.length_cons]
  omega
theorem sla_box {W : World} {v : Value} {l : List UInt8} (h : SlA W v l) (h0 : 0 < l.length) {bb : Nat} {T : TypeId} {x : Value} (y : Value) (hb : Blk W bb T #[x]) (hx : ∀ n, x ≠ .int .u8 n) : SlA (W.setCell ⟨bb, 0, none⟩ y) v l := by
  obtain ⟨A, c, e, h1, h2, h3, h4⟩ := h
  refine ⟨A, c, e, h1, h2, fun _ => ?_, h4⟩
  obtain ⟨b, off, e2, hh⟩ := h3 h0
  have hne : b ≠ bb := by
    rintro rfl
    have h5 := hh 0 h0
    rw [hb.cell] at h5
    cases off with
    | zero => simp at h5; exact hx _ h5
    | succ n => simp at h5
  refine ⟨b, off, e2, fun i hi => ?_⟩
  rw [← hh i hi]
  exact World.cell?_of_block (Below.heap_setCell _ _ _ _ hne)
theorem sla_put {W : World} {v : Value} {l : List UInt8} (h : SlA W v l) (h0 : 0 < l.length) {D : Nat} (o : Obj) (hD : ∃ q, W.heap[D]? = some (.deferred q)) : SlA (W.putObj D o) v l := by
  obtain ⟨A, c, e, h1, h2, h3, h4⟩ := h
  refine ⟨A, c, e, h1, h2, fun _ => ?_, h4⟩
  obtain ⟨b, off, e2, hh⟩ := h3 h0
  have hlt : b < W.heap.size := cell_lt (hh 0 h0)
  have hne : some b ≠ some D := by
    intro e
    obtain rfl := Option.some.inj e
    have h5 := hh 0 h0
    obtain ⟨q, hD⟩ := hD
    simp [World.cell?, hD] at h5
  refine ⟨b, off, e2, fun i hi => ?_⟩
  rw [← hh i hi]
  exact World.cell?_of_block ((grownBy_putObj' W D o).block b hlt hne)
/-- append of one entry to a row of the call's own, inside a fence. -/
theorem wpListIn_append_ent {F : Fence} {n : Nat} {ops : Array Oper} {rest : List Oper} {o : Oper} {a : Act} {Q : Exit → Act → World → Prop} (hgd : o.guard = Option.none) (s x : Operand)
    (ho : o.op = .call { callee := .builtin .append, args := #[s, x], argTypes := #[88, 88] })
    (w : World) (base : Nat) (v : Value) (l : List En) (hs : a.eval s = v) (hown : ERow w base v l)
    (G : Nat) (m : Nat) (hx : a.eval x = .slice (some ⟨G, 0, Option.none⟩) 1 m) (y : En) (hy : y.u.oneCell' = true) (hc : ∀ j u, y.e[j]? = some u → w.cell? ((⟨G, 0, Option.none⟩ : Addr).add j) = some u)
    (hlen : l.length ≤ 100000) (hbase : base ≤ w.heap.size)
    (h : ∀ g cap w', w'.ownsRow base 106 10 (.slice (some ⟨g, 0, none⟩) (l.length + 1) cap) (l.length + 1) (flatE (l ++ [y])) → w.grownBy w' v.ownBlock → wpListIn F n Tryz.prog ops Q rest (a.put o.dst (.slice (some ⟨g, 0, none⟩) (l.length + 1) cap)) w') : wpListIn F n Tryz.prog ops Q (o :: rest) a w := by
  obtain ⟨i0, hi, hz0, hz1, hz2⟩ := info_parts info_ent
  refine wpListIn_append_own w hgd s x 88 ho base 106 i0 _ 10 128 Tryz.underlying88 hi hz0 hz1 hz2 rfl (by decide) v l.length (flatE l) hs hown ⟨G, 0, Option.none⟩ 1 m y.e hx (En.e_len y) hc (y.e_one hy) (by unfold maxLen; omega) (by omega) hbase ?_
  intro v' w' h1 h2 _
  obtain ⟨g, cap, rfl⟩ := ownsRow_succ9 h1
  refine h g cap w' ?_ h2
  rw [flatE_app, flatE_one]
  exact h1
/-- Places that rise from the first one on. -/
def Inc {m : Nat} (l : List (Fin m)) : Prop := l.Pairwise (fun x y => x.val < y.val) ∧ ∀ h, l.head? = some h → h.val = 0
theorem inc_nil {m : Nat} : Inc ([] : List (Fin m)) := ⟨List.Pairwise.nil, fun h e => by cases e⟩
theorem inc_one {m : Nat} (x : Fin m) : Inc ([] ++ [x]) ↔ x.val = 0 := by
  constructor
  · intro h; exact h.2 x rfl
  · intro h; exact ⟨List.pairwise_singleton _ _, fun y e => by cases e; exact h⟩
theorem inc_more {m : Nat} {l : List (Fin m)} {y x : Fin m} (h : Inc (l ++ [y])) : Inc (l ++ [y] ++ [x]) ↔ y.val < x.val := by
  constructor
  · intro h2
    have h3 := h2.1
    rw [List.pairwise_append] at h3
    exact h3.2.2 y (by simp) x (by simp)
  · intro h2
    refine ⟨?_, fun z e => ?_⟩
    · rw [List.pairwise_append]
      refine ⟨h.1, List.pairwise_singleton _ _, fun a ha b hb => ?_⟩
      rw [List.mem_singleton.1 hb]
      rcases List.mem_append.1 ha with ha | ha
      · have h4 := h.1
        rw [List.pairwise_append] at h4
        have := h4.2.2 a ha y (by simp)
        omega
      · rw [List.mem_singleton.1 ha]; exact h2
    · refine h.2 z ?_
      cases l with
      | nil => simpa using e
      | cons a l => simpa using e
theorem inc_take {m : Nat} (k : Nat) : Inc ((List.finRange m).take k) := by
  constructor
  · have h : (List.finRange m).Pairwise (fun x y => x.val < y.val) := by
      rw [List.pairwise_iff_getElem]
      intro i j hi hj hij
      simpa using hij
    exact h.sublist (List.take_sublist _ _)
  · intro h e
    cases m with
    | zero => simp at e
    | succ m =>
      cases k with
      | zero => simp at e
      | succ k =>
        rw [List.finRange_succ, List.take_succ_cons] at e
        cases e
        rfl

set_option maxRecDepth 100000 in
set_option maxHeartbeats 8000000 in
/-- May an entry stand behind others? -/
theorem follows_fin (ps : List (List CT)) (u : Nat → Value) (m : Nat) (hm : ps.length = m) (hcut : Cut9 ps) (w : World) (B : Nat) (v : Value) (pre : List (Fin m)) (x : Fin m)
    (hu : ∀ (i : Nat) (p : List CT), ps[i]? = some p → ∃ A c, u (2 * i) = .slice A (headK p).length c ∧ HoldsA w A (headK p))
    (hr : ERow w B v (pre.map fun i => enL ps u i.val)) (hpl : pre.length ≤ 1000000) (hnil : pre = [] → v = .slice none 0 0) (hinc : Inc pre) (bb : Bool) (hbb : bb = true ↔ Inc (pre ++ [x])) :
    Calls Tryz.prog 130 #[v, .agg (enL ps u x.val).e.toArray] w fun e w' => e = .returned (.bool bb) ∧ Below w.heap.size w w' := by
  have hat : ∀ i : Fin m, ∃ p, ps[i.val]? = some p ∧ (enL ps u i.val) = ⟨kc (p.headD default), u (2 * i.val), plN ps i.val⟩ := fun i => by
    refine ⟨ps[i.val], List.getElem?_eq_getElem (by omega), ?_⟩
    unfold enL
    rw [List.getD_eq_getElem?_getD, List.getElem?_eq_getElem (by omega)]
    rfl
  obtain ⟨px, hpx, ex⟩ := hat x
  obtain ⟨A1, c1, e1, h1⟩ := hu _ _ hpx
  have hex : (enL ps u x.val).e.toArray = entW (kc (px.headD default)) (.slice A1 (headK px).length c1) (plN ps x.val : Int) := by rw [ex, ← e1]; rfl
  rw [hex]
  rcases List.eq_nil_or_concat pre with rfl | ⟨l, y, rfl⟩
  · rw [hnil rfl]
    by_cases h0 : x.val = 0
    · obtain rfl : bb = true := hbb.2 ((inc_one x).2 h0)
      rw [h0, plN_zero]
      exact follows_first _ _ w
    · obtain rfl : bb = false := by
        cases bb with
        | false => rfl
        | true => exact absurd ((inc_one x).1 (hbb.1 rfl)) h0
      exact follows_start _ _ (plN ps x.val) (by have := plN_lt (ps := ps) (i := 0) (j := x.val) (by omega) (by omega); rw [plN_zero] at this; exact this) w
  · rw [List.concat_eq_append] at hr hinc hbb
    obtain ⟨py, hpy, ey⟩ := hat y
    obtain ⟨A0, c0, e0, h0⟩ := hu _ _ hpy
    obtain ⟨A, cap, rfl, hl1, hl2, hg⟩ := hr.len
    have hlen : (List.map (fun i : Fin m => enL ps u i.val) (l ++ [y])).length = l.length + 1 := by simp
    rw [hlen] at hr hl1 hg ⊢
    obtain ⟨g, rfl, _, _⟩ := hg (by omega)
    have hlm : l.length + 1 ≤ 1000000 := by have := hpl; simpa using this
    have hy : (List.map (fun i : Fin m => enL ps u i.val) (l ++ [y]))[l.length]? = some ⟨kc (py.headD default), u (2 * y.val), plN ps y.val⟩ := by rw [← ey]; simp
    obtain ⟨a0, a1, a2, a3, a4, a5, a6, a7, a8, a9⟩ := en_words hr.he l.length hy
    simp only [Nat.zero_add] at a0 a1 a2 a3 a4 a5 a6 a7 a8 a9
    rw [e0] at a0
    by_cases hlt : y.val < x.val
    · obtain rfl : bb = true := hbb.2 ((inc_more hinc).2 hlt)
      refine follows_next g (l.length + 1) cap hlm l.length rfl (kc (py.headD default)) (kc (px.headD default)) A0 A1 c0 c1 (headK py) (headK px) (plN ps y.val) (plN ps x.val) (plN_lt hlt (by omega)) ?_ w h0 h1 a0 a1 a2 a3 a4 a5 a6 a7 a8 a9
      have hle := head_mono hcut hpy hpx (by omega)
      obtain ⟨d, t, _, e5, hd⟩ := head_cell hcut hpx
      have hyd : py.headD default ∈ (ps.take x.val).flatten := by
        obtain ⟨d2, t2, q1, q2, _⟩ := head_cell hcut hpy
        rw [q2]
        exact mem_take hpy (by rw [q1]; exact List.mem_cons_self) hlt
      obtain ⟨_, _, _, _, h7⟩ := less_head hcut hpx hyd
      exact h7
    · obtain rfl : bb = false := by
        cases bb with
        | false => rfl
        | true => exact absurd ((inc_more hinc).1 (hbb.1 rfl)) hlt
      refine follows_gap g (l.length + 1) cap hlm l.length rfl (kc (py.headD default)) (kc (px.headD default)) A0 A1 c0 c1 (headK py) (headK px) (plN ps y.val) (plN ps x.val) ?_ w h0 h1 a0 a1 a2 a3 a4 a5 a6 a7 a8 a9
      have hle := head_mono hcut hpx hpy (by omega)
      have := cmpB_neg (headK px) (headK py)
      omega

set_option maxRecDepth 100000 in
set_option maxHeartbeats 8000000 in
theorem readindex_any (A : Option Addr) (c : Nat) (ps : List (List CT)) (hcut : Cut9 ps) (hbc : ∀ p ∈ ps, ∀ x ∈ p, Bc x) (hn : ps.length ≤ 120) (w : World) (hlen : (listM (idxL 0 ps)).length ≤ 100000) (hpl : (blkF ps).length ≤ 1000000)
    (hb : SlA w (.slice A (listM (idxL 0 ps)).length c) (listM (idxL 0 ps))) (hL : LaidU w) :
    Calls Tryz.prog 71 #[.slice A (listM (idxL 0 ps)).length c, .int .i64 ((blkF ps).length : Int)] w fun e w' => ∃ v u, e = .returned (.tuple #[v, .bool true]) ∧ ERow w' w.heap.size v (esL ps u) ∧ (∀ i p, ps[i]? = some p → SlA w' (u (2 * i)) (headK p)) ∧ Below w.heap.size w w' ∧ (ps = [] → v = .slice none 0 0) := by
  obtain ⟨A', c', e', g1, g2, g3, _⟩ := hb
  injection e' with q1 q2 q3
  subst q1 q3
  have hpl1 : ∀ x ∈ idxL 0 ps, x.length < 9223372036854775808 := fun x hx => by
    have := (idx_len ps 0 hbc hcut.pos (by omega)).2 x hx
    omega
  have hpm : partsM (listM (idxL 0 ps)) = some (idxL 0 ps) := parts_list _ hpl1 (by rw [idxL_len]; omega)
  obtain ⟨m, hm⟩ : ∃ m, ps.length = m := ⟨_, rfl⟩
  have HPa : Hid (∀ W, Below w.heap.size w W → Calls Tryz.prog 127 #[.slice A (listM (idxL 0 ps)).length c] W fun e w' => ∃ Al cl, e = .returned (.tuple #[.slice Al (2 * m) cl, .bool true]) ∧ Hid (LsB w' (.slice Al (2 * m) cl) (idxL 0 ps) ∧ Below W.heap.size W w')) := fun W hW => by
    refine (parts_any A c _ hlen g1 g2 W (g3.below hW)).mono fun e w' he => ?_
    unfold PaEnd at he
    rw [hpm] at he
    obtain ⟨hb, v, e1, e2⟩ := he
    obtain ⟨Al, cl, rfl, e4⟩ := id e2
    rw [idxL_len, hm] at e1 e2
    exact ⟨Al, cl, e1, e2, hb⟩
  obtain ⟨bl, hbl⟩ : ∃ bl, (listM (idxL 0 ps)).length = bl := ⟨_, rfl⟩
  obtain ⟨en, hen⟩ : ∃ en, (blkF ps).length = en := ⟨_, rfl⟩
  have HEn := hid hen
  have HCut := hid hcut
  have HPl : Hid (en ≤ 1000000) := by rw [← hen]; exact hpl
  have HBc := hid hbc
  have HLa := hid hL
  have HM := hid hm
  have hm1 : m ≤ 120 := by omega
  rw [hbl] at HPa ⊢
  rw [hen]
  clear g1 g2 g3 hlen hbl hen hcut hbc hL hm hn hpl1 hpm hpl
  have hmod : ((2 * m : Nat) : Int) % 2 = 0 := by omega
  have HW2 : Hid (Below w.heap.size w (((w.alloc (.cells #[.int .i64 en] 3)).alloc (.cells #[.slice none 0 0] 88)).alloc (.cells #[.bool false] 4))) := ((below_new w _).alloc (by simp) _).alloc (by simp; omega) _
  refine callsIn_wide.1 (callsIn_of_wp_marks (n := 6) Tryz.func71 rfl trivial ?_ rfl)
  refine wpIn_wide.2 ?_
  simp only [Tryz.ntmps71, List.size_toArray, List.length_cons, List.length_nil, Nat.reduceAdd, Nat.reduceSub, Array.replicate_succ, Array.replicate_zero, List.push_toArray, List.append_toArray, List.nil_append, List.cons_append]
  go_upto_region 5 with (go_at_call 127; refine (HPa.out _ HW2.out).mono ?_; rintro e w3 ⟨Al, cl, rfl, h3⟩; have H3 := hid h3.out; clear h3)
  obtain ⟨b, off, hA, hrows⟩ : ∃ b off, (0 < m → Al = some ⟨b, off, none⟩) ∧ ∀ i (h : i < (idxL 0 ps).length), ∃ A' c', w3.cell? ⟨b, off + i, none⟩ = some (.slice A' ((idxL 0 ps)[i]).length c') ∧ SlA w3 (.slice A' ((idxL 0 ps)[i]).length c') (idxL 0 ps)[i] := by
    obtain ⟨Al', cl', e, hh⟩ := H3.out.1
    injection e with e1 e2 e3
    subst e1
    rcases Nat.eq_zero_or_pos m with h0 | h0
    · exact ⟨0, 0, fun h => by omega, fun i h => by rw [idxL_len, HM.out] at h; omega⟩
    · obtain ⟨b, off, e, hr⟩ := hh (by rw [idxL_len, HM.out]; omega)
      exact ⟨b, off, fun _ => e, hr⟩
  obtain ⟨u, hu⟩ : ∃ u : Nat → Value, ∀ i, u i = (w3.cell? ⟨b, off + i, none⟩).getD undef := ⟨_, fun _ => rfl⟩
  have HU : Hid (∀ i (h : i < (idxL 0 ps).length), w3.cell? ⟨b, off + i, none⟩ = some (u i) ∧ ∃ A' c', u i = .slice A' ((idxL 0 ps)[i]).length c' ∧ SlA w3 (u i) (idxL 0 ps)[i]) := fun i h => by
    obtain ⟨A', c', h1, h2⟩ := hrows i h
    have e : u i = .slice A' ((idxL 0 ps)[i]).length c' := by rw [hu, h1]; rfl
    rw [e]
    exact ⟨h1, A', c', rfl, h2⟩
  have HB3 : Hid (Below w.heap.size w w3) := HW2.out.trans (H3.out.2.mono HW2.out.size)
  have HBx : Hid (Blk w3 w.heap.size 3 #[.int .i64 en] ∧ Blk w3 (w.heap.size + 1) 88 #[.slice none 0 0] ∧ Blk w3 (w.heap.size + 1 + 1) 4 #[.bool false] ∧ w.heap.size + 1 + 1 < w3.heap.size) := by
    have s1 : (w.alloc (.cells #[.int .i64 en] 3)).heap.size = w.heap.size + 1 := World.size_alloc _ _
    have s2 : ((w.alloc (.cells #[.int .i64 en] 3)).alloc (.cells #[.slice none 0 0] 88)).heap.size = w.heap.size + 1 + 1 := by rw [World.size_alloc, s1]
    have k1 := Blk.new w 3 #[.int .i64 en]
    have k2 := Blk.new (w.alloc (.cells #[.int .i64 en] 3)) 88 #[.slice none 0 0]
    have k3 := Blk.new ((w.alloc (.cells #[.int .i64 en] 3)).alloc (.cells #[.slice none 0 0] 88)) 4 #[.bool false]
    have n2 := below_new (w.alloc (.cells #[.int .i64 en] 3)) (.cells #[.slice none 0 0] 88)
    have n3 := below_new ((w.alloc (.cells #[.int .i64 en] 3)).alloc (.cells #[.slice none 0 0] 88)) (.cells #[.bool false] 4)
    rw [s1] at k2
    rw [s2] at k3
    have hb := H3.out.2
    have k1' := (k1.keep n2 (by rw [s1]; omega)).keep n3 (by rw [s2]; omega)
    have k2' := k2.keep n3 (by rw [s2]; omega)
    have hz := hb.size
    rw [World.size_alloc, s2] at hz
    exact ⟨k1'.keep hb k1'.lt, k2'.keep hb k2'.lt, k3.keep hb k3.lt, by omega⟩
  have hRow : ∀ (i : Nat) (p : List CT), ps[i]? = some p → (∃ A1 c1, u (2 * i) = .slice A1 (headK p).length c1 ∧ SlA w3 (u (2 * i)) (headK p)) ∧ (∃ A2 c2, u (2 * i + 1) = .slice A2 (numW (plN ps i)).length c2 ∧ SlA w3 (u (2 * i + 1)) (numW (plN ps i))) := fun i p hp => by
    obtain ⟨h1, h2⟩ := idxL_at ps 0 i p hp
    rw [Nat.zero_add] at h2
    obtain ⟨l1, e1⟩ := List.getElem?_eq_some_iff.1 h1
    obtain ⟨l2, e2⟩ := List.getElem?_eq_some_iff.1 h2
    have g1 := (HU.out _ l1).2
    have g2 := (HU.out _ l2).2
    rw [e1] at g1
    rw [e2] at g2
    exact ⟨g1, g2⟩
  have HRw := hid hRow
  have HRe : Hid (∀ (x : Fin m) W, Below w3.heap.size w3 W → Calls Tryz.prog 129 #[u (2 * x.val), u (2 * x.val + 1)] W fun e w' => e = .returned (.tuple #[.agg (enL ps u x.val).e.toArray, .bool true]) ∧ Below W.heap.size W w') := fun x W hW => by
    have hx : x.val < ps.length := by rw [HM.out]; exact x.isLt
    have hp : ps[x.val]? = some ps[x.val] := List.getElem?_eq_getElem hx
    obtain ⟨⟨A1, c1, e1, h1⟩, A2, c2, e2, h2⟩ := hRow _ _ hp
    obtain ⟨d, t, e3, e4, _⟩ := head_cell HCut.out hp
    have hk : headK ps[x.val] = keyL d := by rw [e3]; rfl
    rw [hk] at e1 h1
    have h1' := h1.below hW
    have h2' := h2.below hW
    rw [e1] at h1'
    rw [e2] at h2'
    have hd : Bc d := HBc.out _ (List.mem_of_getElem? hp) d (by rw [e3]; exact List.mem_cons_self)
    have hpl9 : plN ps x.val < 9223372036854775808 := by
      have := plN_lt (ps := ps) (i := x.val) (j := ps.length) hx (Nat.le_refl _)
      rw [plN_end, HEn.out] at this
      have := HPl.out
      omega
    have h3 := readentry_any A1 A2 c1 c2 d (plN ps x.val) hpl9 hd W h1' h2' (HLa.out.below (HB3.out.trans (hW.mono HB3.out.size)))
    have e5 : (enL ps u x.val).e.toArray = entW (kc d) (.slice A1 (keyL d).length c1) (plN ps x.val : Int) := by
      unfold enL
      rw [List.getD_eq_getElem?_getD, List.getElem?_eq_getElem hx, ← e1]
      show entW (kc (ps[x.val].headD default)) _ _ = _
      rw [e4]
    rw [e5, e1, e2]
    exact h3
  have HFo : Hid (∀ (pre : List (Fin m)) (x : Fin m) W v (bb : Bool), Below w3.heap.size w3 W → ERow W w3.heap.size v (pre.map fun i => enL ps u i.val) → pre.length < m → (pre = [] → v = .slice none 0 0) → Inc pre → (bb = true ↔ Inc (pre ++ [x])) → Calls Tryz.prog 130 #[v, .agg (enL ps u x.val).e.toArray] W fun e w' => e = .returned (.bool bb) ∧ Below W.heap.size W w') := fun pre x W v bb hW hr hl hnil hinc hbb =>
    follows_fin ps u m HM.out HCut.out W w3.heap.size v pre x (fun i p hp => by
      obtain ⟨A1, c1, e1, h1⟩ := (hRow i p hp).1
      have h2 := h1.below hW
      rw [e1] at h2
      obtain ⟨A, c, e, _, _, h3, _⟩ := h2
      injection e with e
      subst e
      exact ⟨A1, c1, e1, h3⟩) hr (by omega) hnil hinc bb hbb
  have HEp : Hid (∀ x : Fin m, plN ps x.val < en) := fun x => by
    have := plN_lt (ps := ps) (i := x.val) (j := ps.length) (by rw [HM.out]; exact x.isLt) (Nat.le_refl _)
    rw [plN_end, HEn.out] at this
    exact this
  clear hrows hu hRow HPa
  go_wp2_with (go_at_call 128; refine (pairs_any Al (2 * m) cl _).mono ?_; rintro e w4 ⟨rfl, rfl⟩)
  have HW0 : Hid (Boxed ((w3.alloc (.cells #[.slice none 0 0] 88)).alloc (.cells #[.slice Al (2 * m) cl] 79)) w3.heap.size 88 (.slice none 0 0) ∧ Boxed ((w3.alloc (.cells #[.slice none 0 0] 88)).alloc (.cells #[.slice Al (2 * m) cl] 79)) (w3.heap.size + 1) 79 (.slice Al (2 * m) cl) ∧ Below w3.heap.size w3 ((w3.alloc (.cells #[.slice none 0 0] 88)).alloc (.cells #[.slice Al (2 * m) cl] 79)) ∧ ((w3.alloc (.cells #[.slice none 0 0] 88)).alloc (.cells #[.slice Al (2 * m) cl] 79)).heap.size = w3.heap.size + 1 + 1) := by
    have s1 : (w3.alloc (.cells #[.slice none 0 0] 88)).heap.size = w3.heap.size + 1 := World.size_alloc _ _
    have k1 := Boxed.new w3 88 (.slice none 0 0)
    have k2 := Boxed.new (w3.alloc (.cells #[.slice none 0 0] 88)) 79 (.slice Al (2 * m) cl)
    rw [s1] at k2
    exact ⟨k1.alloc _, k2, (below_new _ _).alloc (by rw [s1]; omega) _, by rw [World.size_alloc, s1]⟩
  refine wp_ltc (fun W0 => Hid (Boxed W0 w3.heap.size 88 (.slice none 0 0) ∧ Boxed W0 (w3.heap.size + 1) 79 (.slice Al (2 * m) cl) ∧ Below w3.heap.size w3 W0 ∧ W0.heap.size = w3.heap.size + 1 + 1)) HW0 (fun W0 H0 => ?_)
  clear HW0
  obtain ⟨bO, bP, hB0, hsz⟩ := H0.out
  have hbw : 0 < m → b < w3.heap.size := fun h0 => cell_lt (HU.out 0 (by rw [idxL_len, HM.out]; omega)).1
  refine (wpIn_wide (n := 6)).1 ?_
  refine wpIn_rangeFunc_ownH rfl (by decide) (gf := 161) (lb := #[.pointer (some ⟨w3.heap.size + 1, 0, none⟩)]) rfl trivial (enters_of Tryz.func161 (by kernel_rfl) rfl)
    (encs := fun x : Fin m => #[u (2 * x.val), u (2 * x.val + 1)]) (Kp := PrK w3.heap.size (w3.heap.size + 1)) (S := fun ys => ys = List.finRange m) (Sp := fun pre => ∃ k, k ≤ m ∧ pre = (List.finRange m).take k) (N := m) (w0 := W0)
    (fun i J Jx W hW hJ _ hY h0 => pairs1_in 5 (by decide) i (w3.heap.size + 1) w3.heap.size b off cl m Al hA (by omega) hbw u J Jx (fun s X hs => hJ s X X.drew none hs (⟨rfl, rfl, rfl, Nat.le_refl _, fun _ _ _ => rfl⟩ : X.grownBy X.drew none) (fun r e => by cases e)) hY W
      ((hW.cell (p := ⟨w3.heap.size + 1, 0, none⟩) bP.lt).trans bP.cell)
      (fun j hj => by
        have hlt := hbw (by omega)
        have h1 := (HU.out j (by rw [idxL_len, HM.out]; exact hj)).1
        exact ((hB0.trans (hW.mono (by rw [hsz]; omega))).cell (p := ⟨b, off + j, none⟩) hlt).trans h1) h0)
    prK_t (prK_b (by rw [hsz]; omega) (by rw [hsz]; omega)) (Below.refl _ _) (fun _ => rfl)
    (fun pre W => ((∃ v, Boxed W w3.heap.size 88 v ∧ W.ownsRow w3.heap.size 106 10 v pre.length (flatE (pre.map fun i => enL ps u i.val)) ∧ ((pre = [] → v = .slice none 0 0) ∧ Inc pre)) ∧ Below w3.heap.size w3 W) ∧ Blk W (w3.heap.size + 1) 79 #[.slice Al (2 * m) cl])
    (fun c pre _ => c = .ret ∧ ¬ Inc pre)
    (OwnFrom.and (OwnFrom.and (Own.from (holdsRow_own w3.heap.size w3.heap.size 88 106 10 (fun pre : List (Fin m) => pre.length) (fun pre => flatE (pre.map fun i => enL ps u i.val)) (fun pre v => (pre = [] → v = .slice none 0 0) ∧ Inc pre)) _) (ownFrom_below (Nat.le_refl _) (by rw [hsz]; omega))) (blk_from _ _ _ _))
    (fun _ _ _ _ _ hs _ _ => hs)
    ⟨⟨⟨_, bO, ERow.none _ _, fun _ => rfl, inc_nil⟩, hB0⟩, bP⟩
    (fun x a' _ => a' = { tmps := #[.slice A bl c, .int .i64 en, undef, .pointer (some ⟨w.heap.size, 0, none⟩), .pointer (some ⟨w.heap.size + 1, 0, none⟩), .pointer (some ⟨w.heap.size + 1 + 1, 0, none⟩), .slice Al (2 * m) cl, .bool true, .pointer (some ⟨w3.heap.size, 0, none⟩), u (2 * x.val), u (2 * x.val + 1), undef, undef, .tuple #[.slice Al (2 * m) cl, .bool true], .slice A bl c, .tuple #[.slice Al (2 * m) cl, .bool true], .slice Al (2 * m) cl, .bool true, .bool true, .bool false, .bool false, .slice Al (2 * m) cl, .int .i64 (2 * (m : Int)), .int .i64 0, .bool false, .bool false, .slice Al (2 * m) cl, .func (.func 161) #[] #[.pointer (some ⟨w3.heap.size + 1, 0, none⟩)], u (2 * x.val), u (2 * x.val + 1), undef, undef, undef, undef, undef, undef, undef, undef, undef, undef, undef, undef, undef, undef, undef, undef, undef, undef, undef, undef, undef, undef, undef, undef, undef], defers := [] })
    (fun _ _ _ _ _ _ hs _ _ => hs)
    ?assign ?body ?done ?stop
  case assign =>
    rintro l pre x W K hI hK
    gi_wp2
    exact hK _ _ (KeepsFrom.refl _ _) (prK_refl _ _ _) hI rfl
  case body =>
    rintro l pre x a' W hl ⟨r, hr⟩ ⟨⟨⟨v, hv, hrow, hnil, hinc⟩, hB⟩, hbp⟩ rfl hlt
    have hx : x.val < ps.length := by rw [HM.out]; exact x.isLt
    obtain ⟨K, p, A1, kl, c1, he⟩ : ∃ K p A1 kl c1, enL ps u x.val = ⟨K, .slice A1 kl c1, p⟩ := by
      obtain ⟨⟨A1, c1, e1, _⟩, _⟩ := HRw.out _ _ (List.getElem?_eq_getElem hx)
      exact ⟨_, _, A1, _, c1, by unfold enL; rw [e1]⟩
    have hel : (enL ps u x.val).e.toArray = #[.slice A1 kl c1, .string K.r, .string K.f, .string K.q, .int .i64 K.t, .int .i64 K.k, .int .i64 K.vk, .int .i64 K.vn, .string K.s, .int .i64 (p : Int)] := by rw [he]; rfl
    have HR1 : Hid (∀ W, Below w3.heap.size w3 W → Calls Tryz.prog 129 #[u (2 * x.val), u (2 * x.val + 1)] W fun e w' => e = .returned (.tuple #[.agg #[.slice A1 kl c1, .string K.r, .string K.f, .string K.q, .int .i64 K.t, .int .i64 K.k, .int .i64 K.vk, .int .i64 K.vn, .string K.s, .int .i64 (p : Int)], .bool true]) ∧ Below W.heap.size W w') := fun W hW => by rw [← hel]; exact HRe.out x W hW
    have hpe : ¬ (en : Int) ≤ (p : Int) := by
      have h1 := HEp.out x
      have h2 : (enL ps u x.val).p = p := by rw [he]
      have h3 : plN ps x.val = p := h2
      omega
    obtain ⟨Av, cv, ev, _⟩ := (show ERow W w3.heap.size v (pre.map fun i => enL ps u i.val) from by have := hrow; unfold ERow; rw [List.length_map]; exact this).len
    rw [List.length_map] at ev
    subst ev
    obtain ⟨nv, hnv⟩ : ∃ nv, pre.length = nv := ⟨_, rfl⟩
    have HNv := hid hnv
    have HNil := hid hnil
    have HInc := hid hinc
    have hF1 : ∀ bb : Bool, (bb = true ↔ Inc (pre ++ [x])) → ∀ W2, Below W.heap.size W W2 → Calls Tryz.prog 130 #[.slice Av nv cv, .agg #[.slice A1 kl c1, .string K.r, .string K.f, .string K.q, .int .i64 K.t, .int .i64 K.k, .int .i64 K.vk, .int .i64 K.vn, .string K.s, .int .i64 (p : Int)]] W2 fun e w' => e = .returned (.bool bb) ∧ Below W2.heap.size W2 w' := fun bb hbb W2 hW2 => by
      rw [← hel, ← hnv]
      refine HFo.out pre x W2 _ bb (hB.trans (hW2.mono hB.size)) (ERow.below ?_ hW2) hlt hnil hinc hbb
      have := hrow
      unfold ERow
      rw [List.length_map]
      exact this
    rw [hnv] at hv hrow
    have hc := hv.cell
    have hfz := hv.frozen
    have hsz3 := hB.size
    have hlv : w3.heap.size < W.heap.size := hv.lt
    have HV := hid hv
    have HRo := hid hrow
    have HEr : Hid (ERow W w3.heap.size (.slice Av nv cv) (pre.map fun i => enL ps u i.val)) := by
      unfold Hid ERow
      rw [List.length_map, hnv]
      exact hrow
    have HBW := hid hB
    have HBP := hid hbp
    have b0 : W.cell? ⟨w.heap.size, 0, none⟩ = some (.int .i64 en) := (hB.cell (p := ⟨w.heap.size, 0, none⟩) HBx.out.1.lt).trans (HBx.out.1.cell 0)
    have b1 : Blk W (w.heap.size + 1) 88 #[.slice none 0 0] := HBx.out.2.1.keep hB HBx.out.2.1.lt
    have b2 : Blk W (w.heap.size + 1 + 1) 4 #[.bool false] := HBx.out.2.2.1.keep hB HBx.out.2.2.1.lt
    have B1 := hid b1
    have B2 := hid b2
    have hl0 : w.heap.size < W.heap.size := cell_lt b0
    by_cases hI : Inc (pre ++ [x])
    · have HF2 := hid (hF1 true ⟨fun _ => hI, fun _ => rfl⟩)
      have HI := hid hI
      clear hF1 hnv hnil hinc hI hv hrow hB hbp hel b1 b2
      gi_wp2_with (first
        | (refine ⟨trivial, ?_⟩; gi_at_call 129; refine (CallsIn.inRound _ (callsIn_wide.2 (HR1.out _ HBW.out))).mono ?_; rintro e w5 ⟨rfl, hb5⟩; have HB5 := hid hb5; have hba := below_new w5 (.cells #[.slice A1 kl c1, .string K.r, .string K.f, .string K.q, .int .i64 K.t, .int .i64 K.k, .int .i64 K.vk, .int .i64 K.vn, .string K.s, .int .i64 (p : Int)] 106); have hk5 := Blk.new w5 106 #[.slice A1 kl c1, .string K.r, .string K.f, .string K.q, .int .i64 K.t, .int .i64 K.k, .int .i64 K.vk, .int .i64 K.vn, .string K.s, .int .i64 (p : Int)]; have HA5 := hid (hb5.trans (hba.mono hb5.size)); have HK5 := hid hk5; have y0 := ((HA5.out.cell (p := ⟨w3.heap.size, 0, none⟩) hlv)).trans hc; clear hb5 hba hk5)
        | (refine ⟨trivial, ?_⟩; gi_at_call 130; refine (CallsIn.inRound _ (callsIn_wide.2 (HF2.out _ HA5.out))).mono ?_; rintro e w6 ⟨rfl, hb6⟩; have HB6 := hid (HA5.out.trans (hb6.mono HA5.out.size)); have hk6 := HK5.out.keep hb6 HK5.out.lt; have HK6 := hid hk6; obtain ⟨z0, z1, z2, z3, z4, z5, z6, z7, z8, z9⟩ := ent_words (K := K) (u := .slice A1 kl c1) (p := (p : Int)) hk6; have t0 := (HB6.out.cell (p := ⟨w.heap.size, 0, none⟩) hl0).trans b0; have t1 := (HB6.out.cell (p := ⟨w3.heap.size, 0, none⟩) hlv).trans hc; clear hb6 hk6)
        | (gi_at_builtin; have hv6 : Boxed w6 w3.heap.size 88 (.slice Av nv cv) := Blk.keep (xs := #[.slice Av nv cv]) HV.out HB6.out hlv; have hp6 : Boxed w6 (w3.heap.size + 1) 79 (.slice Al (2 * m) cl) := Blk.keep HBP.out HB6.out HBP.out.lt; have hE6 := HEr.out.below HB6.out; have hE7 := hE6.below (below_new w6 (.cells #[.slice A1 kl c1, .string K.r, .string K.f, .string K.q, .int .i64 K.t, .int .i64 K.k, .int .i64 K.vk, .int .i64 K.vn, .string K.s, .int .i64 (p : Int)] 106)); refine wpListIn_append_ent rfl (.tmp 50) (.tmp 52) rfl _ w3.heap.size (.slice Av nv cv) (pre.map fun i => enL ps u i.val) rfl hE7 w6.heap.size 1 rfl ⟨K, .slice A1 kl c1, p⟩ rfl (fun j z hj => ?_) (by rw [List.length_map]; omega) (by have := HB6.out.size; simp; omega) ?_; exact ent_new ⟨K, .slice A1 kl c1, p⟩ w6 _ j z hj; intro g' cap' w7 hown' hgrow; obtain ⟨hv7, hv8, hr8, hk8, hb8⟩ := hv6.appended (by decide) hE6 (Nat.le_trans hsz3 HB6.out.size) (Nat.le_refl _) hown' hgrow; have hc7 := hv7.cell; have hf7 := hv7.frozen; have hp8 := ((hp6.alloc _).kept hgrow (hp6.not_row (by decide) hE6)).other (B' := w3.heap.size) (by omega) (.slice (some ⟨g', 0, none⟩) ((pre.map fun i => enL ps u i.val).length + 1) cap')))
      simp only [List.length_map] at hv8 hr8 hk8 hb8 hp8
      exact ⟨(keeps_of_below HB6.out).trans (hk8.from _), ⟨(HB6.out.mono hsz3).trans hb8, hp8.trans HBP.out.symm⟩, ⟨⟨_, hv8, by simpa [he] using hr8, fun e => absurd e (by simp), HI.out⟩, HBW.out.trans ((HB6.out.mono hsz3).trans hb8)⟩, hp8⟩
    · have HF2 := hid (hF1 false ⟨fun h => (by cases h), fun h => absurd h hI⟩)
      have HI := hid hI
      clear hF1 hnv hnil hinc hI hv hrow hB hbp hel b1 b2
      gi_wp2_with (first
        | (refine ⟨trivial, ?_⟩; gi_at_call 129; refine (CallsIn.inRound _ (callsIn_wide.2 (HR1.out _ HBW.out))).mono ?_; rintro e w5 ⟨rfl, hb5⟩; have HB5 := hid hb5; have hba := below_new w5 (.cells #[.slice A1 kl c1, .string K.r, .string K.f, .string K.q, .int .i64 K.t, .int .i64 K.k, .int .i64 K.vk, .int .i64 K.vn, .string K.s, .int .i64 (p : Int)] 106); have hk5 := Blk.new w5 106 #[.slice A1 kl c1, .string K.r, .string K.f, .string K.q, .int .i64 K.t, .int .i64 K.k, .int .i64 K.vk, .int .i64 K.vn, .string K.s, .int .i64 (p : Int)]; have HA5 := hid (hb5.trans (hba.mono hb5.size)); have HK5 := hid hk5; have y0 := ((HA5.out.cell (p := ⟨w3.heap.size, 0, none⟩) hlv)).trans hc; clear hb5 hba hk5)
        | (refine ⟨trivial, ?_⟩; gi_at_call 130; refine (CallsIn.inRound _ (callsIn_wide.2 (HF2.out _ HA5.out))).mono ?_; rintro e w6 ⟨rfl, hb6⟩; have HB6 := hid (HA5.out.trans (hb6.mono HA5.out.size)); have hk6 := HK5.out.keep hb6 HK5.out.lt; have HK6 := hid hk6; obtain ⟨z0, z1, z2, z3, z4, z5, z6, z7, z8, z9⟩ := ent_words (K := K) (u := .slice A1 kl c1) (p := (p : Int)) hk6; have t0 := (HB6.out.cell (p := ⟨w.heap.size, 0, none⟩) hl0).trans b0; have t1 := (HB6.out.cell (p := ⟨w3.heap.size, 0, none⟩) hlv).trans hc; have r1 := B1.out.keep HB6.out B1.out.lt; have r2 := B2.out.keep HB6.out B2.out.lt; have r3 := r1.cell 0; have r4 := r2.cell 0; have r5 := r1.free 0; have r6 := r2.free 0; clear hb6 hk6))
      exact ⟨((keeps_of_below HB6.out).trans ((KeepsOthers.setCell _ _ _).from _)).trans ((KeepsOthers.setCell _ _ _).from _), rfl, HI.out⟩
  case done =>
    rintro D ys W hD rfl ⟨⟨⟨v, hv, hrow, hnil, hinc⟩, hB⟩, hbp⟩ hK
    have he9 : (List.finRange m).map (fun i => enL ps u i.val) = esL ps u := by
      unfold esL
      rw [HM.out]
      refine List.ext_getElem (by simp) fun i h1 h2 => ?_
      simp
    rw [he9, List.length_finRange] at hrow
    have hE9 : ERow W w3.heap.size v (esL ps u) := by
      unfold ERow
      rw [esL_len, HM.out]
      exact hrow
    obtain ⟨Av, cv, rfl, _⟩ := hE9.len
    obtain ⟨nv, hnv⟩ : ∃ nv, (esL ps u).length = nv := ⟨_, rfl⟩
    rw [hnv] at hv hE9 hnil
    clear hrow he9
    have hrow := hE9
    have hc := hv.cell
    have b1 : Blk W (w.heap.size + 1) 88 #[.slice none 0 0] := HBx.out.2.1.keep hB HBx.out.2.1.lt
    have b2 : Blk W (w.heap.size + 1 + 1) 4 #[.bool false] := HBx.out.2.2.1.keep hB HBx.out.2.2.1.lt
    have r3 := b1.cell 0
    have r4 := b2.cell 0
    have r5 := b1.free 0
    have r6 := b2.free 0
    have HV := hid hv
    have HRo := hid hrow
    have HNl := hid hnil
    have HBd := hid hB
    have B1 := hid b1
    have B2 := hid b2
    clear hv hrow hnil hinc hB hbp b1 b2 hE9 hnv
    go_wp2
    have hD1 : D ≠ w.heap.size + 1 := by have := HBx.out.2.2.2; rw [hsz] at hD; omega
    have hD2 : D ≠ w.heap.size + 1 + 1 := by have := HBx.out.2.2.2; rw [hsz] at hD; omega
    obtain ⟨W5, hW5⟩ : ∃ W5, (W.setCell ⟨w.heap.size + 1, 0, none⟩ (.slice Av nv cv)).setCell ⟨w.heap.size + 1 + 1, 0, none⟩ (.bool true) = W5 := ⟨_, rfl⟩
    have k1 := Boxed.set (.slice Av nv cv) B1.out
    have k2 := Boxed.set (.bool true) (Boxed.other (B' := w.heap.size + 1) B2.out (by omega) (.slice Av nv cv))
    have k1' := Boxed.other (B' := w.heap.size + 1 + 1) k1 (by omega) (.bool true)
    have hb5 : Below (w.heap.size) W W5 := by
      rw [← hW5]
      exact ((Below.refl _ W).setCell (p := ⟨w.heap.size + 1, 0, none⟩) (by show _ ≤ w.heap.size + 1; omega) _).setCell (p := ⟨w.heap.size + 1 + 1, 0, none⟩) (by show _ ≤ w.heap.size + 1 + 1; omega) _
    have hK5 : W5.heap[D]? = some (.deferred (some [])) := by
      rw [← hW5]
      exact (Below.heap_setCell _ _ _ _ hD2).trans ((Below.heap_setCell _ _ _ _ hD1).trans hK)
    rw [hW5] at k2 k1' ⊢
    refine ⟨by simp, .inl ⟨_, _, rfl, run_takeDeferred hK5, ?_⟩⟩
    have hp : Below w3.heap.size W5 (W5.putObj D (.deferred none)) := belowK_b (w := W0) (by omega) W5 D _ _ hD hK5 rfl rfl
    have c1 : (W5.putObj D (.deferred none)).cell? ⟨w.heap.size + 1, 0, none⟩ = some (.slice Av nv cv) := (hp.cell (p := ⟨w.heap.size + 1, 0, none⟩) (Nat.lt_of_succ_lt HBx.out.2.2.2)).trans k1'.cell
    have c2 : (W5.putObj D (.deferred none)).cell? ⟨w.heap.size + 1 + 1, 0, none⟩ = some (.bool true) := (hp.cell (p := ⟨w.heap.size + 1 + 1, 0, none⟩) HBx.out.2.2.2).trans k2.cell
    have q1 := World.ownsRow.kept HRo.out (grownBy_setCell' W (w.heap.size + 1) (.slice Av nv cv)) (.inr (Boxed.not_row B1.out (by decide) HRo.out).symm)
    have q2' := World.ownsRow.kept q1 (grownBy_setCell' _ (w.heap.size + 1 + 1) (.bool true)) (.inr (Boxed.not_row (Boxed.other (B' := w.heap.size + 1) B2.out (by omega) (.slice Av nv cv)) (by decide) q1).symm)
    rw [hW5] at q2'
    have q3 : ERow (W5.putObj D (.deferred none)) w3.heap.size (.slice Av nv cv) (esL ps u) := ownsRow_putObj q2' _ hK5 rfl
    refine ⟨.tuple #[.slice Av nv cv, .bool true], ?_, .slice Av nv cv, u, rfl, q3.le HB3.out.size, fun i p hp9 => ?_, ?_, fun e => ?_⟩
    · simp [results, Tryz.results71, go_sem, c1, c2]
    · have h1 := ((HRw.out i p hp9).1.choose_spec.choose_spec).2
      have h2 := h1.below HBd.out
      have h3 := sla_box h2 headK_pos (.slice Av nv cv) B1.out (fun n e => by cases e)
      have h4 := sla_box h3 headK_pos (.bool true) (Boxed.other (B' := w.heap.size + 1) B2.out (by omega) (.slice Av nv cv)) (fun n e => by cases e)
      rw [hW5] at h4
      exact sla_put h4 headK_pos _ ⟨_, hK5⟩
    · exact ((HB3.out.trans (HBd.out.mono HB3.out.size)).trans hb5).trans (hp.mono HB3.out.size)
    · refine HNl.out ?_
      have : m = 0 := by rw [← HM.out, e]; rfl
      subst this
      rfl
  case stop =>
    rintro D cc pre W _ ⟨k, _, rfl⟩ ⟨_, hn⟩ _
    exact absurd (inc_take k) hn
end Go.Proofs.YtjbjdkginemedaaGreatDoor
