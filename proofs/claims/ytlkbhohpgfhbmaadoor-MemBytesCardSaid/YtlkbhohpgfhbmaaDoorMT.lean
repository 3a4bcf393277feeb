/- Several texts in one: YN YO YP YQ YR YS YT YU. Conditions: as each theorem names them. -/
import Derived.Test.YtlkbhohpgfhbmaaDoorM2
import Derived.Test.YtlkbhohpgfhbmaaDoorT3
import Derived.RangeFuncNested
import Derived.RangeFuncBound
import Derived.RangeFuncCalls
import Derived.RangeFuncLeaves
import Derived.Shelf.Abstract
import Derived.Shelf.RegionOpen
import Derived.OwnWalkIn
import Derived.TacticsInMore
import Derived.LoopNIn
import Derived.LoopIn
import Derived.RangeFuncBox
import Derived.Test.YtlkbhohpgfhbmaaDoorT2
import Derived.Deep.QuietTactic
import Derived.Test.YtlkbhohpgfhbmaaDoorRR
import Derived.Deep.RegionWith
/- (*mem.Mem).From: what its iterator hands to a loop. Conditions: the table stands. -/
namespace Go.Proofs.YtlkbhohpgfhbmaaDoor
open Go.RowKit Go.Shelf
attribute [local go_sem] Oper.semAt_some

/-- A whole row is stored, inside a fence. -/
theorem wpListIn_store_row {F : Fence} {n : Nat} {P : Program} {ops : Array Oper} {rest : List Oper} {o : Oper} {a : Act} {w : World} {Q : Exit → Act → World → Prop} (hgd : o.guard = none) (ty : TypeId) (x y : Operand) (ho : o.op = .store ty x y)
    (g : Nat) (cells : Array Value) (hx : a.eval x = .pointer (some ⟨g, 0, none⟩)) (hy : a.eval y = .agg cells)
    (t : TypeId) (old : Array Value) (hg : w.heap[g]? = some (.cells old t (0, 0))) (hi : (P.info? ty).map (·.size) = some cells.size)
    (hold : old.size = cells.size) (h1 : cells.all (·.oneCell') = true)
    (h : wpListIn F n P ops Q rest (a.put o.dst undef) (w.setRow g cells)) : wpListIn F n P ops Q (o :: rest) a w := by
  refine wpListIn_plain hgd fun K hK' => ?_
  unfold Oper.wpIn
  refine ⟨?_, ?_⟩
  · simp [Oper.about, ho]
  · rw [Oper.semAt_plain F _ _ (by rw [ho]; intro c hc'; cases hc')]
    simp only [execOp, ho, hx, hy, Instr.storeAt, Instr.sureAddr, Sem.run_bind, Sem.run_pure, Result.andThen_ok, run_storeVar_row w g t ty old cells hg hi hold h1]
    exact hK' _ _ h

theorem wpListIn_ltc {F : Fence} {n : Nat} {P : Program} {ops : Array Oper} {rest : List Oper} {a : Act} {w : World} {Q : Exit → Act → World → Prop} (Fp : World → Prop) (h0 : Fp w) (h : ∀ W, Fp W → wpListIn F n P ops Q rest a W) : wpListIn F n P ops Q rest a w := h w h0

/-- What is told from a cell's place on. -/
def fromL (l : List CT) (c : CT) : List CT := l.filter (fun x => !decide (CT.cmp x c < 0))
/-- How many nodes stand from the one that v points to on; none behind nil. -/
def leftO (L : List Nd) : Value → Nat
  | .pointer none => 0
  | v => leftN L v

set_option maxRecDepth 100000 in
set_option maxHeartbeats 4000000 in
theorem from1_in (n : Nat) (hn : 1 ≤ n) (i Bm Bc mb n₀ B : Nat) (l : List CT) (c : CT) (w0 : World) (hM : MemOf w0 B mb l) (hn0 : w0.heap.size = n₀) (J Jx : List CT → World → Prop)
    (hJd : ∀ s X Y, J s X → Below X.heap.size X Y → J s Y)
    (hY : ∀ pre x W, J pre W → pre.length < (fromL l c).length → YieldAt Fence.wide (n - 1) Tryd.prog i #[CT.v x] W fun e W' =>
      (e = .returned (.bool true) ∧ J (pre ++ [x]) W' ∧ Below n₀ W W') ∨ (e = .returned (.bool false) ∧ Jx (pre ++ [x]) W'))
    (W : World) (hW0 : Below n₀ w0 W) (hBm : Blk W Bm 54 #[.pointer (some ⟨mb, 0, none⟩)]) (hBc : Blk W Bc 28 c.e.toArray) (h0 : J [] W) :
    CallsIn Fence.wide n Tryd.prog 80 #[.func (.yield i) #[] #[], .pointer (some ⟨Bm, 0, none⟩), .pointer (some ⟨Bc, 0, none⟩)] W fun e W' => (∃ v, e = .returned v) ∧
      ((∃ ys, ys = fromL l c ∧ J ys W') ∨ (∃ pre, pre <+: fromL l c ∧ Jx pre W')) := by
  obtain ⟨hd, L, h⟩ := hM
  obtain ⟨P, Q, rfl, hP, hQ, ep, eq⟩ := h.part c
  have hMB : Hid (∀ W, Below n₀ w0 W → MemIs W B mb l hd (P ++ Q)) := fun W hb => h.below (by rw [hn0]; exact hb)
  have HFi : Hid (∀ W, Below n₀ w0 W → Calls Tryd.prog 75 #[.pointer (some ⟨mb, 0, none⟩), c.v] W fun e w' => ∃ xs : Array Value, e = .returned (.agg xs) ∧ xs.size = 32 ∧ (∀ j, j < 32 → xs[j]? = some (lastH hd P j).p) ∧ Below W.heap.size W w') := fun W hb => find_any mb hd P Q c B W ((hMB.out W hb).blk.cell 0) (hMB.out W hb).sk hP hQ
  have hi102 : (Tryd.prog.info? 102).map (·.size) = some 32 := by kernel_rfl
  have HFr : Hid (fromL l c = Q.map Nd.c) := eq.symm
  have HN0 := hid (h.sk.last0)
  have HDb := hid h.sk.db
  have HY : Hid (∀ pre x W, J pre W → pre.length < (fromL l c).length → YieldAt Fence.wide (n - 1) Tryd.prog i #[CT.v x] W fun e W' =>
      (e = .returned (.bool true) ∧ J (pre ++ [x]) W' ∧ Below n₀ W W') ∨ (e = .returned (.bool false) ∧ Jx (pre ++ [x]) W')) := hY
  have HJd := hid hJd
  have HW0 := hid hW0
  have HJ0 := hid h0
  have b0 : W.cell? ⟨Bm, 0, none⟩ = some (.pointer (some ⟨mb, 0, none⟩)) := hBm.cell 0
  have c0 : W.cell? ⟨Bc, 0, none⟩ = some (.string c.r) := hBc.cell 0
  have c1 : W.cell? ⟨Bc, 1, none⟩ = some (.string c.f) := hBc.cell 1
  have c2 : W.cell? ⟨Bc, 2, none⟩ = some (.string c.q) := hBc.cell 2
  have c3 : W.cell? ⟨Bc, 3, none⟩ = some (.int .i64 c.t) := hBc.cell 3
  have c4 : W.cell? ⟨Bc, 4, none⟩ = some (.int .i64 c.k) := hBc.cell 4
  have c5 : W.cell? ⟨Bc, 5, none⟩ = some (.int .i64 c.vk) := hBc.cell 5
  have c6 : W.cell? ⟨Bc, 6, none⟩ = some (.int .i64 c.vn) := hBc.cell 6
  have c7 : W.cell? ⟨Bc, 7, none⟩ = some (.string c.s) := hBc.cell 7
  clear hP hQ ep eq h hY hJd hW0 h0 hBm hBc
  refine callsIn_of_wp Tryd.func80 rfl trivial ?_ rfl
  simp only [Tryd.ntmps80, List.size_toArray, List.length_cons, List.length_nil, Nat.reduceAdd, Nat.reduceSub, Array.replicate_succ, Array.replicate_zero, List.push_toArray, List.append_toArray, List.nil_append, List.cons_append]
  have HSt : Hid (∀ (W1 : World), Below n₀ w0 W1 → W1.cell? ⟨(lastH hd P 0).b, 8, none⟩ = some (.slice (some ⟨(lastH hd P 0).g, 0, none⟩) (lastH hd P 0).h (lastH hd P 0).cap) ∧ W1.cell? ⟨(lastH hd P 0).g, 0, none⟩ = some (nx Q 0)) := fun W1 hb => by
    have hN := (hMB.out W1 hb).sk.at0
    exact ⟨hN.words.2.2.2.2.2.2.2.2, hN.at HN0.out.2⟩
  have hn0z : (0 : Int) < ((lastH hd P 0).h : Int) := by have := HN0.out.2; omega
  obtain ⟨u, hu⟩ := nx_ptr Q 0
  have HU := hid hu
  rw [hu] at HSt
  clear hu
  gi_wp2_with (first
    | (refine ⟨trivial, ?_⟩; gi_at_call 75; refine (callsIn_wide.2 (HFi.out _ HW0.out)).mono ?_; rintro e w6 ⟨xs, rfl, hxl, hxs, hb6⟩; have B6 := hid hb6; have HXs := hid hxs; have hone : xs.all (·.oneCell') = true := paths_one hxl hxs; clear hb6 hxs b0 c0 c1 c2 c3 c4 c5 c6 c7)
    | (refine wpListIn_store_row rfl 102 (.tmp 4) (.tmp 8) rfl w6.heap.size xs rfl rfl 102 (Array.replicate 32 (.pointer none)) (Blk.new w6 _ _) (by rw [hxl]; exact hi102) (by simp [hxl]) hone ?_; refine wpListIn_ltc (fun W1 => Hid (Blk W1 w6.heap.size 102 xs ∧ Below W.heap.size W W1)) ⟨setRow_heap _ _ (Array.replicate 32 (.pointer none)) _ _ (0, 0) (Blk.new w6 _ _), below_row (B6.out.trans ((below_new w6 _).mono B6.out.size)) B6.out.size⟩ (fun W1 H1 => ?_); have hs1 := HSt.out W1 (HW0.out.trans (H1.out.2.mono (by have := HW0.out.size; omega))); have a0 : W1.cell? ⟨w6.heap.size, 0, none⟩ = some (.pointer (some ⟨(lastH hd P 0).b, 0, none⟩)) := (H1.out.1.cell 0).trans (HXs.out 0 (by omega)); obtain ⟨x8, xg⟩ := hs1))
  have HJ1 : Hid (J [] W1) := HJd.out _ _ _ HJ0.out H1.out.2
  have HB1 : Hid (Below n₀ w0 W1) := HW0.out.trans (H1.out.2.mono (by have := HW0.out.size; omega))
  clear a0 x8 xg H1 HSt HFi B6 HXs hone HJ0 HW0 hxl
  gi_loopw [5] (fun vq wr => ∃ (pre rest : List Nd) (po : Option Addr), vq = .pointer po ∧ Hid (nx rest 0 = .pointer po) ∧ Hid (Q = pre ++ rest) ∧ Hid (J (pre.map Nd.c) wr ∧ Below n₀ w0 wr)) (fun vq _ => leftO (hd :: (P ++ Q)) vq)
  case atStart => exact ⟨[], Q, u, rfl, HU.out, rfl, HJ1.out, HB1.out⟩
  case round =>
    clear HJ1 HB1
    obtain ⟨pre, rest, po, rfl, HP, HQ, HJ⟩ := hrel
    cases rest with
    | nil =>
      have hp : po = none := by have := HP.out; injection this with this; exact this.symm
      subst hp
      gi_wp2
      go_end0
      exact ⟨⟨_, rfl⟩, .inl ⟨pre.map Nd.c, by rw [HFr.out, HQ.out]; simp, HJ.out.1⟩⟩
    | cons q rest =>
      have hsk := (hMB.out wr HJ.out.2).sk
      have hq1 : 1 ≤ q.h := (hsk.hs q (by rw [HQ.out]; simp)).1
      have hp : po = some ⟨q.b, 0, none⟩ := by
        have h1 := HP.out
        rw [show nx (q :: rest) 0 = q.p from if_pos (by omega)] at h1
        injection h1 with h1
        exact h1.symm
      subst hp
      have HNd : Hid (∀ W', Below n₀ w0 W' → NdAt W' B q rest) := fun W' hb => by
        have h1 := (hMB.out W' hb).sk.ch
        have e : hd :: (P ++ Q) = (hd :: (P ++ pre)) ++ q :: rest := by rw [HQ.out]; simp
        rw [e] at h1
        exact h1.at
      obtain ⟨y0, y1, y2, y3, y4, y5, y6, y7, _⟩ := (HNd.out wr HJ.out.2).words
      obtain ⟨fn, tmps, assign, body, hy, hR⟩ := HY.out _ q.c wr HJ.out.1 (by rw [HFr.out, HQ.out]; simp)
      have HM : Hid (leftO (hd :: (P ++ Q)) (nx rest 0) < leftO (hd :: (P ++ Q)) (.pointer (some ⟨q.b, 0, none⟩))) := by
        have hdb := HDb.out
        have e1 : hd :: (P ++ Q) = (hd :: (P ++ pre)) ++ q :: rest := by rw [HQ.out]; simp
        have l1 : leftO (hd :: (P ++ Q)) (.pointer (some ⟨q.b, 0, none⟩)) = rest.length + 1 := by
          show leftN _ _ = _
          rw [e1] at hdb ⊢
          exact leftN_at hdb
        unfold Hid
        rw [l1]
        cases rest with
        | nil => show 0 < _; omega
        | cons z rest =>
          have hz1 : 1 ≤ z.h := (hsk.hs z (by rw [HQ.out]; simp)).1
          rw [show nx (z :: rest) 0 = z.p from if_pos (by omega)]
          have e2 : hd :: (P ++ Q) = (hd :: (P ++ (pre ++ [q]))) ++ z :: rest := by rw [HQ.out]; simp
          have l2 : leftO (hd :: (P ++ Q)) z.p = rest.length + 1 := by
            show leftN _ _ = _
            rw [e2] at hdb ⊢
            exact leftN_at hdb
          rw [l2]
          simp
      have hq0z : (0 : Int) < (q.h : Int) := by omega
      obtain ⟨po2, hpo2⟩ := nx_ptr rest 0
      rw [hpo2] at HM
      have HP2 := hid hpo2
      have HQ1 := hid hq1
      clear hsk hq1 hpo2
      gi_wp2
      refine hR.mono ?_
      rintro e W3 (⟨rfl, hJ3, hk3⟩ | ⟨rfl, hJx3⟩)
      · have hb3 : Below n₀ w0 W3 := HJ.out.2.trans hk3
        have hN3 := HNd.out W3 hb3
        have q8 : W3.cell? ⟨q.b, 8, none⟩ = some (.slice (some ⟨q.g, 0, none⟩) q.h q.cap) := hN3.words.2.2.2.2.2.2.2.2
        have qg : W3.cell? ⟨q.g, 0, none⟩ = some (.pointer po2) := (hN3.at HQ1.out).trans (by rw [HP2.out])
        have HJ3 := hid hJ3
        have HB3 := hid hb3
        clear hJ3 hk3 hb3 hN3 hR hy y0 y1 y2 y3 y4 y5 y6 y7
        gi_wp2
        go_roundw
        case rel => exact ⟨pre ++ [q], rest, po2, rfl, HP2.out, hid (by rw [HQ.out]; simp), by rw [List.map_append]; exact HJ3.out, HB3.out⟩
        case measure => exact HM.out
      · have HJx := hid hJx3
        clear hJx3 hR hy y0 y1 y2 y3 y4 y5 y6 y7
        gi_wp2
        refine bodyPost_ret (results_none rfl _ _ _) rfl ?_
        refine ⟨⟨_, rfl⟩, .inr ⟨pre.map Nd.c ++ [q.c], ?_, HJx.out⟩⟩
        rw [HFr.out, HQ.out]
        exact ⟨rest.map Nd.c, by simp⟩

/-- (*mem.Mem).From: both arguments are boxed; the closure holds the boxes. -/
theorem from_in (n mb : Nat) (c : CT) (w : World) :
    CallsIn Fence.wide n Tryd.prog 47 #[.pointer (some ⟨mb, 0, none⟩), c.v] w fun e w' => e = .returned (.func (.func 80) #[] #[.pointer (some ⟨w.heap.size, 0, none⟩), .pointer (some ⟨w.heap.size + 1, 0, none⟩)]) ∧ w' = (w.alloc (.cells #[.pointer (some ⟨mb, 0, none⟩)] 54)).alloc (.cells c.e.toArray 28) := by
  refine callsIn_of_wp Tryd.func47 rfl trivial ?_ rfl
  simp only [Tryd.ntmps47, List.size_toArray, List.length_cons, List.length_nil, Nat.reduceAdd, Nat.reduceSub, Array.replicate_succ, Array.replicate_zero, List.push_toArray, List.append_toArray, List.nil_append, List.cons_append]
  gi_wp2
  go_ret
  exact ⟨rfl, rfl⟩
/-- (*mem.Mem).All: from the noughts on. -/
theorem all_in (n mb : Nat) (w : World) :
    CallsIn Fence.wide n Tryd.prog 79 #[.pointer (some ⟨mb, 0, none⟩)] w fun e w' => e = .returned (.func (.func 80) #[] #[.pointer (some ⟨w.heap.size, 0, none⟩), .pointer (some ⟨w.heap.size + 1, 0, none⟩)]) ∧ w' = (w.alloc (.cells #[.pointer (some ⟨mb, 0, none⟩)] 54)).alloc (.cells (default : CT).e.toArray 28) := by
  have HF := hid (from_in (n - 1) mb default w)
  refine callsIn_of_wp Tryd.func79 rfl trivial ?_ rfl
  simp only [Tryd.ntmps79, List.size_toArray, List.length_cons, List.length_nil, Nat.reduceAdd, Nat.reduceSub, Array.replicate_succ, Array.replicate_zero, List.push_toArray, List.append_toArray, List.nil_append, List.cons_append]
  gi_wp2_with (refine ⟨trivial, (fun q => by cases q), ?_⟩; gi_at_call 47; refine HF.out.mono ?_; rintro e w5 ⟨rfl, rfl⟩)
  go_ret
  exact ⟨rfl, rfl⟩
theorem from_stops (n : Nat) (hn : 1 ≤ n) (Bm Bc mb n₀ B : Nat) (l : List CT) (c : CT) (w0 w : World) (hM : MemOf w0 B mb l) (hn0 : w0.heap.size = n₀) (hw : Below n₀ w0 w) (hBm : Blk w Bm 54 #[.pointer (some ⟨mb, 0, none⟩)]) (hBc : Blk w Bc 28 c.e.toArray) :
    SeqStopsK Fence.wide n Tryd.prog 80 #[.pointer (some ⟨Bm, 0, none⟩), .pointer (some ⟨Bc, 0, none⟩)] (fun x : CT => #[CT.v x]) (Below n₀) (fun ys => ys = fromL l c) (fun pre => pre <+: fromL l c) (fromL l c).length w := fun i J Jx W hW hJ _ hY h0 =>
  from1_in n hn i Bm Bc mb n₀ B l c w0 hM hn0 J Jx (fun s X Y hs hb => hJ s X Y none hs ⟨hb.os, hb.tape, hb.output, hb.size, fun k hk _ => hb.block k hk⟩ (fun r e => by cases e)) hY W (hw.trans (hW.mono (by have := hw.size; omega))) (hBm.keep hW hBm.lt) (hBc.keep hW hBc.lt) h0
/-- From the noughts on all right cells are told. -/
theorem fromL_all {l : List CT} (h : ∀ c ∈ l, c.ok = true) : fromL l default = l := by
  refine List.filter_eq_self.2 fun x hx => ?_
  have hr := (ok_parts (h x hx)).1
  rw [Bool.not_eq_true', decide_eq_false_iff_not]
  intro z
  rw [cmp_lex] at z
  have h1 := (lex_le (Int.le_of_lt z)).1
  have h2 : Lib.compareBytes x.r.data.toList (default : CT).r.data.toList = 1 := by
    cases hd : x.r.data.toList with
    | nil => rw [hd] at hr; simp at hr
    | cons a t => rfl
  omega
end Go.Proofs.YtlkbhohpgfhbmaaDoor

/- joistlaw07.all: all cells of a table, as the iterator tells them. Conditions: the table stands, with a hundred thousand cells at most. -/
namespace Go.Proofs.YtlkbhohpgfhbmaaDoor
open Go.RowKit Go.Shelf
attribute [local go_sem] Oper.semAt_some

/-- append of one cell to a row of the call's own, inside a fence. -/
theorem wpListIn_append_cell {F : Fence} {n : Nat} {ops : Array Oper} {rest : List Oper} {o : Oper} {a : Act} {Q : Exit → Act → World → Prop} (hgd : o.guard = Option.none) (s x : Operand)
    (ho : o.op = .call { callee := .builtin .append, args := #[s, x], argTypes := #[39, 39] })
    (w : World) (base : Nat) (v : Value) (l : List CT) (hs : a.eval s = v) (hown : CRow w base v l)
    (G : Nat) (m : Nat) (hx : a.eval x = .slice (some ⟨G, 0, Option.none⟩) 1 m) (y : CT) (hc : ∀ j u, y.e[j]? = some u → w.cell? ((⟨G, 0, Option.none⟩ : Addr).add j) = some u)
    (hlen : l.length ≤ 100000) (hbase : base ≤ w.heap.size)
    (h : ∀ g cap w', w'.ownsRow base 28 8 (.slice (some ⟨g, 0, none⟩) (l.length + 1) cap) (l.length + 1) (flatC (l ++ [y])) → w.grownBy w' v.ownBlock → wpListIn F n Tryd.prog ops Q rest (a.put o.dst (.slice (some ⟨g, 0, none⟩) (l.length + 1) cap)) w') : wpListIn F n Tryd.prog ops Q (o :: rest) a w := by
  obtain ⟨i0, hi, hz0, hz1, hz2⟩ := info_parts info_cell
  refine wpListIn_append_own w hgd s x 39 ho base 28 i0 _ 8 96 Tryd.underlying39 hi hz0 hz1 hz2 rfl (by decide) v l.length (flatC l) hs hown ⟨G, 0, Option.none⟩ 1 m y.e hx (CT.e_len y) hc y.e_one (by unfold maxLen; omega) (by omega) hbase ?_
  intro v' w' h1 h2 _
  obtain ⟨g, cap, rfl⟩ := ownsRow_succ h1
  refine h g cap w' ?_ h2
  rw [flatC_app, flatC_one]
  exact h1

theorem wpIn_ltc {F : Fence} {n : Nat} {P : Program} {c : Code} {Q : Exit → Act → World → Prop} {a : Act} {w : World} (Fp : World → Prop) (h0 : Fp w) (h : ∀ W, Fp W → c.wpIn F n P Q a W) : c.wpIn F n P Q a w := h w h0
theorem blk_own {X Y : World} {row : Option Nat} {B : Nat} {T : TypeId} {xs : Array Value} (h : Blk X B T xs) (hg : X.grownBy Y row) (hr : ∀ r, row = some r → ∃ o : Obj, X.heap[r]? = some o ∧ o.isCells = false) : Blk Y B T xs := by
  refine (hg.block B h.lt fun e => ?_).trans h
  obtain ⟨o, ho, hc⟩ := hr B e.symm
  unfold Blk at h
  rw [h] at ho
  cases ho
  cases hc

set_option maxRecDepth 100000 in
set_option maxHeartbeats 4000000 in
theorem allC_in (n : Nat) (hn : 3 ≤ n) (mb B : Nat) (l : List CT) (hlen : l.length ≤ 100000) (hlo : ∀ c ∈ l, c.ok = true) (w : World) (hM : MemOf w B mb l) :
    CallsIn Fence.wide n Tryd.prog 42 #[.pointer (some ⟨mb, 0, none⟩)] w fun e w' => ∃ v, e = .returned v ∧ CRow w' w.heap.size v l ∧ Below w.heap.size w w' := by
  have h1 : 1 ≤ n := by omega
  have hFa := fromL_all hlo
  refine callsIn_of_wp_marks Tryd.func42 rfl trivial ?_ rfl
  simp only [Tryd.ntmps42, List.size_toArray, List.length_cons, List.length_nil, Nat.reduceAdd, Nat.reduceSub, Array.replicate_succ, Array.replicate_zero, List.push_toArray, List.append_toArray, List.nil_append, List.cons_append]
  gi_wp2_with (refine ⟨trivial, ?_⟩; gi_at_call 79; refine (all_in (n - 1) mb _).mono ?_; rintro e w' ⟨rfl, rfl⟩)
  obtain ⟨S, hS⟩ : ∃ S, w.heap.size = S := ⟨_, rfl⟩
  have hW0 : Hid (Boxed ((((w.alloc (.cells #[] 28)).alloc (.cells #[.slice (some ⟨w.heap.size, 0, none⟩) 0 0] 39)).alloc (.cells #[.pointer (some ⟨mb, 0, none⟩)] 54)).alloc (.cells (default : CT).e.toArray 28)) (w.heap.size + 1) 39 (.slice (some ⟨w.heap.size, 0, none⟩) 0 0) ∧ CRow ((((w.alloc (.cells #[] 28)).alloc (.cells #[.slice (some ⟨w.heap.size, 0, none⟩) 0 0] 39)).alloc (.cells #[.pointer (some ⟨mb, 0, none⟩)] 54)).alloc (.cells (default : CT).e.toArray 28)) w.heap.size (.slice (some ⟨w.heap.size, 0, none⟩) 0 0) [] ∧
      Blk ((((w.alloc (.cells #[] 28)).alloc (.cells #[.slice (some ⟨w.heap.size, 0, none⟩) 0 0] 39)).alloc (.cells #[.pointer (some ⟨mb, 0, none⟩)] 54)).alloc (.cells (default : CT).e.toArray 28)) (w.heap.size + 1 + 1) 54 #[.pointer (some ⟨mb, 0, none⟩)] ∧ Blk ((((w.alloc (.cells #[] 28)).alloc (.cells #[.slice (some ⟨w.heap.size, 0, none⟩) 0 0] 39)).alloc (.cells #[.pointer (some ⟨mb, 0, none⟩)] 54)).alloc (.cells (default : CT).e.toArray 28)) (w.heap.size + 1 + 1 + 1) 28 (default : CT).e.toArray ∧
      Below w.heap.size w ((((w.alloc (.cells #[] 28)).alloc (.cells #[.slice (some ⟨w.heap.size, 0, none⟩) 0 0] 39)).alloc (.cells #[.pointer (some ⟨mb, 0, none⟩)] 54)).alloc (.cells (default : CT).e.toArray 28)) ∧ ((((w.alloc (.cells #[] 28)).alloc (.cells #[.slice (some ⟨w.heap.size, 0, none⟩) 0 0] 39)).alloc (.cells #[.pointer (some ⟨mb, 0, none⟩)] 54)).alloc (.cells (default : CT).e.toArray 28)).heap.size = w.heap.size + 1 + 1 + 1 + 1) := by
    have k0 := empty_crow w w.heap.size (Nat.le_refl _)
    have b1 := Boxed.new (w.alloc (.cells #[] 28)) 39 (.slice (some ⟨w.heap.size, 0, none⟩) 0 0)
    have k2 := Blk.new ((w.alloc (.cells #[] 28)).alloc (.cells #[.slice (some ⟨w.heap.size, 0, none⟩) 0 0] 39)) 54 #[.pointer (some ⟨mb, 0, none⟩)]
    have k3 := Blk.new (((w.alloc (.cells #[] 28)).alloc (.cells #[.slice (some ⟨w.heap.size, 0, none⟩) 0 0] 39)).alloc (.cells #[.pointer (some ⟨mb, 0, none⟩)] 54)) 28 (default : CT).e.toArray
    have n3 := below_new (((w.alloc (.cells #[] 28)).alloc (.cells #[.slice (some ⟨w.heap.size, 0, none⟩) 0 0] 39)).alloc (.cells #[.pointer (some ⟨mb, 0, none⟩)] 54)) (.cells (default : CT).e.toArray 28)
    simp only [World.size_alloc] at b1 k2 k3 n3
    refine ⟨(b1.alloc _).alloc _, ((k0.alloc _).alloc _).alloc _, k2.keep n3 (by omega), k3, ?_, by simp only [World.size_alloc]⟩
    exact (((below_new w _).alloc (by simp) _).alloc (by simp; omega) _).alloc (by simp; omega) _
  refine wpIn_ltc (fun W0 => Hid (Boxed W0 (w.heap.size + 1) 39 (.slice (some ⟨w.heap.size, 0, none⟩) 0 0) ∧ CRow W0 w.heap.size (.slice (some ⟨w.heap.size, 0, none⟩) 0 0) [] ∧ Blk W0 (w.heap.size + 1 + 1) 54 #[.pointer (some ⟨mb, 0, none⟩)] ∧ Blk W0 (w.heap.size + 1 + 1 + 1) 28 (default : CT).e.toArray ∧ Below w.heap.size w W0 ∧ W0.heap.size = w.heap.size + 1 + 1 + 1 + 1)) hW0 (fun W0 HW => ?_)
  clear hW0
  obtain ⟨bO, rO, bM, bC, hB0, hsz⟩ := HW.out
  rw [hS] at bO rO bM bC hB0 hsz ⊢
  refine wpIn_rangeFunc_ownH rfl h1 (gf := 80) (lb := #[.pointer (some ⟨S + 1 + 1, 0, none⟩), .pointer (some ⟨S + 1 + 1 + 1, 0, none⟩)]) rfl trivial (enters_of Tryd.func80 (by kernel_rfl) rfl)
    (from_stops (n - 1) (by omega) (S + 1 + 1) (S + 1 + 1 + 1) mb S B l default w W0 hM hS hB0 bM bC) belowK_t (belowK_b (by omega)) (Below.refl _ _) (fun _ => rfl)
    (fun pre W => (∃ v, Boxed W (S + 1) 39 v ∧ W.ownsRow S 28 8 v pre.length (flatC pre) ∧ True) ∧ Below S w W)
    (fun _ _ _ => False)
    (OwnFrom.and (Own.from (holdsRow_own S (S + 1) 39 28 8 (fun pre : List CT => pre.length) (fun pre => flatC pre) (fun _ _ => True)) _) (ownFrom_below (by omega) (by omega)))
    (fun _ _ _ _ _ hs _ _ => hs)
    ⟨⟨_, bO, rO, trivial⟩, hB0⟩
    (fun x a' W => ∃ Bx, S + 1 < Bx ∧ Blk W Bx 28 x.e.toArray ∧ a' = { tmps := #[.pointer (some ⟨mb, 0, none⟩), undef, .slice none 0 0, .pointer (some ⟨S + 1, 0, none⟩), .pointer (some ⟨Bx, 0, none⟩), .slice (some ⟨S, 0, none⟩) 0 0, .pointer (some ⟨mb, 0, none⟩), .func (.func 80) #[] #[.pointer (some ⟨S + 1 + 1, 0, none⟩), .pointer (some ⟨S + 1 + 1 + 1, 0, none⟩)], CT.v x, undef, undef, undef, undef, undef], defers := [] })
    (fun x a' _ X Y row hs hg hr => by obtain ⟨Bx, h1, h2, h3⟩ := hs; exact ⟨Bx, h1, blk_own h2 hg (fun r e => (hr r e).2), h3⟩)
    ?assign ?body ?done ?stop
  case assign =>
    rintro i pre x W K ⟨⟨v, hv, hrow, _⟩, hB⟩ hK
    gi_wp2
    have hz := hB.size
    have b := below_new W (.cells x.e.toArray 28)
    exact hK _ _ ((KeepsOthers.alloc _ _).from _) ((Below.refl _ W).alloc (by omega) _) ⟨⟨v, hv.alloc _, hrow.alloc _, trivial⟩, hB.alloc (by omega) _⟩ ⟨W.heap.size, hv.lt, Blk.new W _ _, rfl⟩
  case body =>
    rintro i pre x a' W hl ⟨r, hr⟩ ⟨⟨v, hv, hrow, _⟩, hB⟩ ⟨Bx, hBx, bX, rfl⟩ hlt
    have hc := hv.cell
    have hz := hB.size
    rw [hFa] at hlt
    have lbx := bX.lt
    have x0 : W.cell? ⟨Bx, 0, none⟩ = some (.string x.r) := bX.cell 0
    have x1 : W.cell? ⟨Bx, 1, none⟩ = some (.string x.f) := bX.cell 1
    have x2 : W.cell? ⟨Bx, 2, none⟩ = some (.string x.q) := bX.cell 2
    have x3 : W.cell? ⟨Bx, 3, none⟩ = some (.int .i64 x.t) := bX.cell 3
    have x4 : W.cell? ⟨Bx, 4, none⟩ = some (.int .i64 x.k) := bX.cell 4
    have x5 : W.cell? ⟨Bx, 5, none⟩ = some (.int .i64 x.vk) := bX.cell 5
    have x6 : W.cell? ⟨Bx, 6, none⟩ = some (.int .i64 x.vn) := bX.cell 6
    have x7 : W.cell? ⟨Bx, 7, none⟩ = some (.string x.s) := bX.cell 7
    gi_wp2_with (gi_at_builtin; refine wpListIn_append_cell rfl (.tmp 9) (.tmp 11) rfl _ S _ pre rfl (hrow.alloc _) W.heap.size 1 rfl x (ct_new x _ _) (by omega) (by simp; omega) ?_; intro g' cap' w1 hown' hgrow; obtain ⟨hv1, hv2, hr2, hk2, hb2⟩ := hv.appended (by decide) hrow (by omega) (by omega) hown' hgrow; have hc1 := hv1.cell; have hf1 := hv1.frozen)
    exact ⟨hk2.from _, hb2, ⟨⟨_, hv2, by simpa using hr2, trivial⟩, hB.trans hb2⟩⟩
  case done =>
    rintro D ys W hD rfl ⟨⟨v, hv, hrow, _⟩, hB⟩ hK
    rw [hFa] at hrow
    have hc := hv.cell
    gi_wp2
    refine ⟨by simp, .inl ⟨_, _, rfl, run_takeDeferred hK, ?_⟩⟩
    exact ⟨_, results_tmp rfl _ _ _, v, rfl, by rw [hS]; exact ownsRow_putObj hrow _ hK rfl, by rw [hS]; exact hB.trans (belowK_b (w := W0) (by omega) W D _ _ hD hK rfl rfl)⟩
  case stop =>
    rintro D c pre W _ _ h _
    exact h.elim

/-- All cells of a table. -/
theorem allC_any (mb B : Nat) (l : List CT) (hlen : l.length ≤ 100000) (w : World) (hM : MemOf w B mb l) :
    Calls Tryd.prog 42 #[.pointer (some ⟨mb, 0, none⟩)] w fun e w' => ∃ v, e = .returned v ∧ CRow w' w.heap.size v l ∧ Below w.heap.size w w' := by
  have hM' := hM
  obtain ⟨hd, L, h⟩ := hM'
  exact callsIn_wide.1 (allC_in 5 (by omega) mb B l hlen (fun c hc => (h.ok c hc).1) w hM)
end Go.Proofs.YtlkbhohpgfhbmaaDoor

/- (*mem.Mem).Row: the cells of a row. Conditions: the table stands, with a hundred thousand cells at most. -/
namespace Go.Proofs.YtlkbhohpgfhbmaaDoor
open Go.RowKit Go.Shelf
attribute [local go_sem] Oper.semAt_some

/-- The place ahead of all that a row may have. -/
def rowC (row : ByteArray) : CT := ⟨row, ⟨#[]⟩, ⟨#[]⟩, 0, 0, 0, 0, ⟨#[]⟩⟩
def rowL (l : List CT) (row : ByteArray) : List CT := l.filter (fun x => decide (x.r = row))
theorem cmpB_nil (b : List UInt8) (h : 1 ≤ b.length) : Lib.compareBytes b [] = 1 := by
  cases b with
  | nil => simp at h
  | cons a t => rfl
theorem nameB_pos {f : List UInt8} (h : nameB f = true) : 1 ≤ f.length := by
  cases f with
  | nil => exact absurd h (by decide)
  | cons a t => simp
theorem row_place {x : CT} {row : ByteArray} (h : x.ok = true) : (x.r = row → 0 < CT.cmp x (rowC row)) ∧ (x.r ≠ row → (CT.cmp x (rowC row) < 0 ↔ Lib.compareBytes x.r.data.toList row.data.toList < 0) ∧ Lib.compareBytes x.r.data.toList row.data.toList ≠ 0) := by
  constructor
  · intro e
    rw [cmp_lex, e]
    have h1 : Lib.compareBytes (rowC row).r.data.toList (rowC row).r.data.toList = 0 := cmpB_self _
    rw [show Lib.compareBytes row.data.toList (rowC row).r.data.toList = 0 from h1, if_pos rfl]
    have h2 := cmpB_nil x.f.data.toList (nameB_pos (cright_parts h).2.2.1)
    rw [show Lib.compareBytes x.f.data.toList (rowC row).f.data.toList = 1 from h2, if_neg (by decide)]
    decide
  · intro e
    have hne : Lib.compareBytes x.r.data.toList row.data.toList ≠ 0 := fun z => e (ba_eq (cmpB_zero _ _ z))
    refine ⟨?_, hne⟩
    rw [cmp_lex, if_neg (show ¬ Lib.compareBytes x.r.data.toList (rowC row).r.data.toList = 0 from hne)]
    exact Iff.rfl
/-- Of the cells from there on those of the row come first. -/
theorem row_first {l : List CT} {row : ByteArray} (hr : l.Pairwise (fun x y => CT.cmp x y < 0)) (hok : ∀ c ∈ l, c.ok = true) : ∀ {p q : List CT}, fromL l (rowC row) = p ++ q → (∀ x ∈ p, x.r = row) → (q = [] ∨ ∃ x t, q = x :: t ∧ x.r ≠ row) → p = rowL l row := by
  intro p q e hp hq
  have e2 : rowL l row = (fromL l (rowC row)).filter (fun x => decide (x.r = row)) := by
    unfold rowL fromL
    rw [List.filter_filter]
    refine List.filter_congr fun x hx => ?_
    by_cases z : x.r = row
    · have := (row_place (row := row) (hok x hx)).1 z
      rw [decide_eq_true z, decide_eq_false (by omega)]; rfl
    · rw [decide_eq_false z, Bool.false_and]
  rw [e2, e, List.filter_append, List.filter_eq_self.2 (fun x hx => decide_eq_true (hp x hx))]
  have hq0 : q.filter (fun x => decide (x.r = row)) = [] := by
    rcases hq with rfl | ⟨x, t, rfl, hx⟩
    · rfl
    · have hfr : (fromL l (rowC row)).Pairwise (fun x y => CT.cmp x y < 0) := hr.filter _
      rw [e] at hfr
      have hxt := (List.pairwise_append.1 hfr).2.1
      have hin : ∀ y ∈ x :: t, y ∈ l ∧ ¬ CT.cmp y (rowC row) < 0 := fun y hy => by
        have : y ∈ fromL l (rowC row) := by rw [e]; exact List.mem_append_right _ hy
        have h1 := List.mem_filter.1 this
        refine ⟨h1.1, fun z => ?_⟩
        have h2 := h1.2
        rw [decide_eq_true z] at h2
        cases h2
      have hx1 := hin x List.mem_cons_self
      have hx2 := (row_place (row := row) (hok x hx1.1)).2 hx
      refine List.filter_eq_nil_iff.2 fun y hy => ?_
      rw [decide_eq_true_iff]
      intro ey
      rcases List.mem_cons.1 hy with rfl | hy
      · exact hx ey
      · have h3 := (List.pairwise_cons.1 hxt).1 y hy
        rw [cmp_lex, ey] at h3
        have h4 := (lex_le (Int.le_of_lt h3)).1
        have h5 : ¬ Lib.compareBytes x.r.data.toList row.data.toList < 0 := fun z => hx1.2 (hx2.1.2 z)
        have := hx2.2
        omega
  rw [hq0, List.append_nil]

/-- Behind the append and the store another box is as it was. -/
theorem boxed_other2 {W w1 : World} {n₀ B B' : Nat} {t e t' : TypeId} {size : Nat} {v u w' : Value} {k : Nat} {xs : List Value} {tmp : Obj}
    (h : Boxed W B' t' u) (hne : B' ≠ B) (hte : t' ≠ e) (_ : t ≠ e) (hrow : W.ownsRow n₀ e size v k xs) (hgrow : (W.alloc tmp).grownBy w1 v.ownBlock) (_ : Boxed w1 B t w') (v' : Value) : Boxed (w1.setCell ⟨B, 0, none⟩ v') B' t' u :=
  ((h.alloc tmp).kept hgrow (h.not_row hte hrow)).other hne v'

set_option maxRecDepth 100000 in
set_option maxHeartbeats 4000000 in
theorem row_in (n : Nat) (hn : 3 ≤ n) (mb B : Nat) (l : List CT) (row : ByteArray) (hlen : l.length ≤ 100000) (w : World) (hM : MemOf w B mb l) :
    CallsIn Fence.wide n Tryd.prog 43 #[.pointer (some ⟨mb, 0, none⟩), .string row] w fun e w' => ∃ v, e = .returned v ∧ CRow w' w.heap.size v (rowL l row) ∧ Below w.heap.size w w' := by
  have h1 : 1 ≤ n := by omega
  have hM' := hM
  obtain ⟨hd, L, hI⟩ := hM'
  have HRf : Hid (∀ p q, fromL l (rowC row) = p ++ q → (∀ x ∈ p, x.r = row) → (q = [] ∨ ∃ x t, q = x :: t ∧ x.r ≠ row) → p = rowL l row) := fun p q => row_first hI.rise (fun c hc => (hI.ok c hc).1)
  have hfl : (fromL l (rowC row)).length ≤ l.length := List.length_filter_le _ _
  clear hI hd L
  refine callsIn_of_wp_marks Tryd.func43 rfl trivial ?_ rfl
  simp only [Tryd.ntmps43, List.size_toArray, List.length_cons, List.length_nil, Nat.reduceAdd, Nat.reduceSub, Array.replicate_succ, Array.replicate_zero, List.push_toArray, List.append_toArray, List.nil_append, List.cons_append]
  have HFi := hid (from_in (n - 1) mb (rowC row))
  gi_wp2_with (refine ⟨trivial, ?_⟩; gi_at_call 47; refine (HFi.out _).mono ?_; rintro e w' ⟨rfl, rfl⟩)
  obtain ⟨S, hS⟩ : ∃ S, w.heap.size = S := ⟨_, rfl⟩
  have hW0 : Hid (Boxed ((((w.alloc (.cells #[.string row] 9)).alloc (.cells #[.slice none 0 0] 39)).alloc (.cells #[.pointer (some ⟨mb, 0, none⟩)] 54)).alloc (.cells (rowC row).e.toArray 28)) (w.heap.size + 1) 39 (.slice none 0 0) ∧ Boxed ((((w.alloc (.cells #[.string row] 9)).alloc (.cells #[.slice none 0 0] 39)).alloc (.cells #[.pointer (some ⟨mb, 0, none⟩)] 54)).alloc (.cells (rowC row).e.toArray 28)) w.heap.size 9 (.string row) ∧
      Blk ((((w.alloc (.cells #[.string row] 9)).alloc (.cells #[.slice none 0 0] 39)).alloc (.cells #[.pointer (some ⟨mb, 0, none⟩)] 54)).alloc (.cells (rowC row).e.toArray 28)) (w.heap.size + 1 + 1) 54 #[.pointer (some ⟨mb, 0, none⟩)] ∧ Blk ((((w.alloc (.cells #[.string row] 9)).alloc (.cells #[.slice none 0 0] 39)).alloc (.cells #[.pointer (some ⟨mb, 0, none⟩)] 54)).alloc (.cells (rowC row).e.toArray 28)) (w.heap.size + 1 + 1 + 1) 28 (rowC row).e.toArray ∧
      Below w.heap.size w ((((w.alloc (.cells #[.string row] 9)).alloc (.cells #[.slice none 0 0] 39)).alloc (.cells #[.pointer (some ⟨mb, 0, none⟩)] 54)).alloc (.cells (rowC row).e.toArray 28)) ∧ ((((w.alloc (.cells #[.string row] 9)).alloc (.cells #[.slice none 0 0] 39)).alloc (.cells #[.pointer (some ⟨mb, 0, none⟩)] 54)).alloc (.cells (rowC row).e.toArray 28)).heap.size = w.heap.size + 1 + 1 + 1 + 1) := by
    have b0 := Boxed.new w 9 (.string row)
    have b1 := Boxed.new (w.alloc (.cells #[.string row] 9)) 39 (.slice none 0 0)
    have k2 := Blk.new ((w.alloc (.cells #[.string row] 9)).alloc (.cells #[.slice none 0 0] 39)) 54 #[.pointer (some ⟨mb, 0, none⟩)]
    have k3 := Blk.new (((w.alloc (.cells #[.string row] 9)).alloc (.cells #[.slice none 0 0] 39)).alloc (.cells #[.pointer (some ⟨mb, 0, none⟩)] 54)) 28 (rowC row).e.toArray
    have n3 := below_new (((w.alloc (.cells #[.string row] 9)).alloc (.cells #[.slice none 0 0] 39)).alloc (.cells #[.pointer (some ⟨mb, 0, none⟩)] 54)) (.cells (rowC row).e.toArray 28)
    simp only [World.size_alloc] at b1 k2 k3 n3
    refine ⟨(b1.alloc _).alloc _, ((b0.alloc _).alloc _).alloc _, k2.keep n3 (by omega), k3, ?_, by simp only [World.size_alloc]⟩
    exact (((below_new w _).alloc (by simp) _).alloc (by simp; omega) _).alloc (by simp; omega) _
  refine wpIn_ltc (fun W0 => Hid (Boxed W0 (w.heap.size + 1) 39 (.slice none 0 0) ∧ Boxed W0 w.heap.size 9 (.string row) ∧ Blk W0 (w.heap.size + 1 + 1) 54 #[.pointer (some ⟨mb, 0, none⟩)] ∧ Blk W0 (w.heap.size + 1 + 1 + 1) 28 (rowC row).e.toArray ∧ Below w.heap.size w W0 ∧ W0.heap.size = w.heap.size + 1 + 1 + 1 + 1)) hW0 (fun W0 HW => ?_)
  clear hW0 HFi
  obtain ⟨bO, bR, bM, bC, hB0, hsz⟩ := HW.out
  rw [hS] at bO bR bM bC hB0 hsz ⊢
  refine wpIn_rangeFunc_ownH rfl h1 (gf := 80) (lb := #[.pointer (some ⟨S + 1 + 1, 0, none⟩), .pointer (some ⟨S + 1 + 1 + 1, 0, none⟩)]) rfl trivial (enters_of Tryd.func80 (by kernel_rfl) rfl)
    (from_stops (n - 1) (by omega) (S + 1 + 1) (S + 1 + 1 + 1) mb S B l (rowC row) w W0 hM hS hB0 bM bC) belowK_t (belowK_b (by omega)) (Below.refl _ _) (fun _ => rfl)
    (fun pre W => ((∃ v, Boxed W (S + 1) 39 v ∧ W.ownsRow S 28 8 v pre.length (flatC pre) ∧ ∀ x ∈ pre, x.r = row) ∧ Boxed W S 9 (.string row)) ∧ Below S w W)
    (fun c pre W => (∃ v, Boxed W (S + 1) 39 v ∧ W.ownsRow S 28 8 v (pre.dropLast).length (flatC (pre.dropLast)) ∧ (c = .exit 0 ∧ (∀ x ∈ pre.dropLast, x.r = row) ∧ ∃ x, pre.getLast? = some x ∧ x.r ≠ row)) ∧ Below S w W)
    (OwnFrom.and (OwnFrom.and (Own.from (holdsRow_own S (S + 1) 39 28 8 (fun pre : List CT => pre.length) (fun pre => flatC pre) (fun pre _ => ∀ x ∈ pre, x.r = row)) _) (Own.from (boxed_own _ _ _) _)) (ownFrom_below (by omega) (by omega)))
    (fun c => OwnFrom.and (Own.from (holdsRow_own S (S + 1) 39 28 8 (fun pre : List CT => (pre.dropLast).length) (fun pre => flatC (pre.dropLast)) (fun pre _ => c = .exit 0 ∧ (∀ x ∈ pre.dropLast, x.r = row) ∧ ∃ x, pre.getLast? = some x ∧ x.r ≠ row)) _) (ownFrom_below (by omega) (by omega)))
    ⟨⟨⟨_, bO, World.ownsRow_nil _ _ _ _, fun x hx => by cases hx⟩, bR⟩, hB0⟩
    (fun x a' W => ∃ Bx, S + 1 < Bx ∧ Blk W Bx 28 x.e.toArray ∧ a' = { tmps := #[.pointer (some ⟨mb, 0, none⟩), .string row, undef, .pointer (some ⟨S, 0, none⟩), .slice none 0 0, .pointer (some ⟨S + 1, 0, none⟩), .pointer (some ⟨Bx, 0, none⟩), .pointer (some ⟨mb, 0, none⟩), .string row, .agg #[.string row, .string ⟨#[]⟩, .string ⟨#[]⟩, .int .i64 0, .int .i64 0, .int .i64 0, .int .i64 0, .string ⟨#[]⟩], .func (.func 80) #[] #[.pointer (some ⟨S + 1 + 1, 0, none⟩), .pointer (some ⟨S + 1 + 1 + 1, 0, none⟩)], CT.v x, undef, undef, undef, undef, undef, undef, undef, undef, undef], defers := [] })
    (fun x a' _ X Y row hs hg hr => by obtain ⟨Bx, h1, h2, h3⟩ := hs; exact ⟨Bx, h1, blk_own h2 hg (fun r e => (hr r e).2), h3⟩)
    ?assign ?body ?done ?stop
  case assign =>
    rintro i pre x W K ⟨⟨⟨v, hv, hrow, hp⟩, hbr⟩, hB⟩ hK
    gi_wp2
    have hz := hB.size
    exact hK _ _ ((KeepsOthers.alloc _ _).from _) ((Below.refl _ W).alloc (by omega) _) ⟨⟨⟨v, hv.alloc _, hrow.alloc _, hp⟩, hbr.alloc _⟩, hB.alloc (by omega) _⟩ ⟨W.heap.size, hv.lt, Blk.new W _ _, rfl⟩
  case body =>
    rintro i pre x a' W hl ⟨r, hr⟩ ⟨⟨⟨v, hv, hrow, hp⟩, hbr⟩, hB⟩ ⟨Bx, hBx, bX, rfl⟩ hlt
    have hc := hv.cell
    have hcr := hbr.cell
    have hz := hB.size
    have lbx := bX.lt
    have x0 : W.cell? ⟨Bx, 0, none⟩ = some (.string x.r) := bX.cell 0
    have x1 : W.cell? ⟨Bx, 1, none⟩ = some (.string x.f) := bX.cell 1
    have x2 : W.cell? ⟨Bx, 2, none⟩ = some (.string x.q) := bX.cell 2
    have x3 : W.cell? ⟨Bx, 3, none⟩ = some (.int .i64 x.t) := bX.cell 3
    have x4 : W.cell? ⟨Bx, 4, none⟩ = some (.int .i64 x.k) := bX.cell 4
    have x5 : W.cell? ⟨Bx, 5, none⟩ = some (.int .i64 x.vk) := bX.cell 5
    have x6 : W.cell? ⟨Bx, 6, none⟩ = some (.int .i64 x.vn) := bX.cell 6
    have x7 : W.cell? ⟨Bx, 7, none⟩ = some (.string x.s) := bX.cell 7
    have HP := hid hp
    clear hp
    by_cases e : x.r = row
    · have q1 : (x.r.toList == row.toList) = true := by rw [e]; simp
      have HEr := hid e
      clear e
      gi_wp2_with (gi_at_builtin; refine wpListIn_append_cell rfl (.tmp 16) (.tmp 18) rfl _ S v pre rfl (hrow.alloc _) W.heap.size 1 rfl x (ct_new x _ _) (by omega) (by simp; omega) ?_; intro g' cap' w1 hown' hgrow; obtain ⟨hv1, hv2, hr2, hk2, hb2⟩ := hv.appended (by decide) hrow (by omega) (by omega) hown' hgrow; have hc1 := hv1.cell; have hf1 := hv1.frozen; have hb1 := boxed_other2 hbr (by omega) (by decide) (by decide) hrow hgrow hv1)
      exact ⟨hk2.from _, hb2, ⟨⟨_, hv2, by simpa using hr2, fun y hy => by rcases List.mem_append.1 hy with hy | hy; exact HP.out y hy; exact (List.mem_singleton.1 hy) ▸ HEr.out⟩, hb1 _⟩, hB.trans hb2⟩
    · have q1 : (x.r.toList == row.toList) = false := ba_ne e
      have HEr := hid e
      clear e
      gi_wp2
      exact ⟨KeepsFrom.refl _ _, ⟨v, hv, by rw [List.dropLast_concat]; exact hrow, rfl, by rw [List.dropLast_concat]; exact HP.out, x, by simp, HEr.out⟩, hB⟩
  case done =>
    rintro D ys W hD rfl ⟨⟨⟨v, hv, hrow, hp⟩, hbr⟩, hB⟩ hK
    have hc := hv.cell
    have HE := hid (HRf.out _ [] (by simp) hp (.inl rfl))
    clear hp
    gi_wp2
    refine ⟨by simp, .inl ⟨_, _, rfl, run_takeDeferred hK, ?_⟩⟩
    exact ⟨_, results_tmp rfl _ _ _, v, rfl, by rw [hS, ← HE.out]; exact ownsRow_putObj hrow _ hK rfl, by rw [hS]; exact hB.trans (belowK_b (w := W0) (by omega) W D _ _ hD hK rfl rfl)⟩
  case stop =>
    rintro D c pre W hD hpre ⟨⟨v, hv, hrow, rfl, hp, x, hx, hxr⟩, hB⟩ hK
    have hc := hv.cell
    have HE : Hid (pre.dropLast = rowL l row) := by
      obtain ⟨t, ht⟩ := hpre
      have e1 : pre = pre.dropLast ++ [x] := by
        obtain ⟨ys, rfl⟩ := List.getLast?_eq_some_iff.1 hx
        rw [List.dropLast_concat]
      refine HRf.out _ (x :: t) ?_ hp (.inr ⟨x, t, rfl, hxr⟩)
      rw [← ht, e1]
      simp
    clear hp hx hxr hpre
    gi_wp2
    refine ⟨by simp, .inl ⟨_, _, rfl, run_takeDeferred hK, ?_⟩⟩
    exact ⟨_, results_tmp rfl _ _ _, v, rfl, by rw [hS, ← HE.out]; exact ownsRow_putObj hrow _ hK rfl, by rw [hS]; exact hB.trans (belowK_b (w := W0) (by omega) W D _ _ hD hK rfl rfl)⟩

/-- The cells of a row. -/
theorem row_any (mb B : Nat) (l : List CT) (row : ByteArray) (hlen : l.length ≤ 100000) (w : World) (hM : MemOf w B mb l) :
    Calls Tryd.prog 43 #[.pointer (some ⟨mb, 0, none⟩), .string row] w fun e w' => ∃ v, e = .returned v ∧ CRow w' w.heap.size v (rowL l row) ∧ Below w.heap.size w w' := callsIn_wide.1 (row_in 5 (by omega) mb B l row hlen w hM)
end Go.Proofs.YtlkbhohpgfhbmaaDoor

/- Layer 7's own helpers: put, LongCells at any number, and the three cells that its fixed part puts. Conditions: as each theorem names them. -/
namespace Go.Proofs.YtlkbhohpgfhbmaaDoor
open Go.RowKit

def putM (r : ByteArray) (n : Int) : CT := ⟨r, ⟨#[102]⟩, ⟨#[113]⟩, 1, 1, 1, n, ⟨#[]⟩⟩
set_option maxHeartbeats 1000000 in
theorem putm_any (r : ByteArray) (n : Int) (w : World) : Calls Tryd.prog 74 #[.string r, .int .i64 n] w fun e w' => e = .returned (putM r n).v ∧ Below w.heap.size w w' := by
  go_enter Tryd.func74, Tryd.ntmps74
  go_wp2
  refine bodyPost_ret (v := (putM r n).v) (by simp [results, Tryd.results74, go_sem, putM, CT.v, cellV]) rfl ?_
  exact ⟨rfl, below_new _ _⟩
abbrev bA : ByteArray := ⟨#[97]⟩
abbrev bB : ByteArray := ⟨#[98]⟩
theorem putm1 : putL [] (putM bB 1) = [putM bB 1] := by kernel_rfl
theorem putm2 : putL [putM bB 1] (putM bB 2) = [putM bB 2] := by kernel_rfl
theorem putm3 : putL [putM bB 2] (putM bA 3) = [putM bA 3, putM bB 2] := by kernel_rfl
theorem putm4 : getL [putM bA 3, putM bB 2] (putM bB 9) = some (putM bB 2) := by kernel_rfl
theorem putm5 : rowL [putM bA 3, putM bB 2] bA = [putM bA 3] := by kernel_rfl
theorem putm_okC (r : ByteArray) (n : Int) (hn : inI n) : okC (putM r n) := ⟨by show (1 : Nat) ≤ _; omega, by show (0 : Nat) ≤ _; omega, hn⟩
theorem putm_ok1 : (putM bB 1).ok = true := by kernel_rfl
theorem putm_ok2 : (putM bB 2).ok = true := by kernel_rfl
theorem putm_ok3 : (putM bA 3).ok = true := by kernel_rfl
theorem none_ok : (default : CT).ok = false := by kernel_rfl
theorem putm_b0 : bytesL [] ≤ 1000000000 := by decide
theorem putm_b1 : bytesL [putM bB 1] ≤ 1000000000 := of_decide_eq_true (by kernel_rfl)
theorem putm_b2 : bytesL [putM bB 2] ≤ 1000000000 := of_decide_eq_true (by kernel_rfl)
theorem putm_b3 : 0 < bytesL [putM bA 3, putM bB 2] := of_decide_eq_true (by kernel_rfl)
theorem putm_e1 : encL (putM bB 1) ≤ 1000000 := of_decide_eq_true (by kernel_rfl)
theorem putm_e2 : encL (putM bB 2) ≤ 1000000 := of_decide_eq_true (by kernel_rfl)
theorem putm_e3 : encL (putM bA 3) ≤ 1000000 := of_decide_eq_true (by kernel_rfl)
end Go.Proofs.YtlkbhohpgfhbmaaDoor

/- LongCells at any number. Conditions: the argument stands. -/
namespace Go.Proofs.YtlkbhohpgfhbmaaDoor
open Go.RowKit

/-- Is a list of cells greater than is looked at, m being the most? -/
def longM (m : Nat) (l : List CT) : Bool := decide (m < l.length) || l.any longC1
theorem longM_ok {m : Nat} {l : List CT} (h : longM m l = false) (hv : ∀ c ∈ l, inI c.vn) : l.length ≤ m ∧ ∀ c ∈ l, okC c ∧ c.r.size ≤ 60 ∧ c.f.size ≤ 60 ∧ c.q.size ≤ 60 ∧ c.s.size ≤ 100 := by
  unfold longM at h
  rw [Bool.or_eq_false_iff] at h
  obtain ⟨h1, h2⟩ := h
  have h1 := of_decide_eq_false h1
  refine ⟨by omega, fun c hc => ?_⟩
  have h3 : longC1 c = false := by
    cases e : longC1 c with
    | false => rfl
    | true =>
      rw [List.any_eq_true.2 ⟨c, hc, e⟩] at h2
      cases h2
  unfold longC1 at h3
  simp only [Bool.or_eq_false_iff, decide_eq_false_iff_not] at h3
  exact ⟨⟨by omega, by omega, hv c hc⟩, by omega, by omega, by omega, by omega⟩

set_option maxHeartbeats 4000000 in
set_option maxRecDepth 100000 in
theorem longcells_at (m : Nat) (v : Value) (l : List CT) (w : World) (h : ClA w v l) :
    Calls Tryd.prog 35 #[v, .int .i64 (m : Int)] w fun e w' => e = .returned (.bool (longM m l)) ∧ Below w.heap.size w w' := by
  have mixed : Tryd.prog.follows .mixedOrders = true := by kernel_rfl
  obtain ⟨A, cc, rfl, hc1, hc2, hh⟩ := h
  unfold longM
  obtain ⟨n, hn⟩ : ∃ n, l.length = n := ⟨_, rfl⟩
  have HN := hid hn
  rw [hn] at hc1 hh ⊢
  have HH := hid hh
  clear hn hh
  by_cases hl : m < n
  · have hlz : (m : Int) < (n : Int) := by omega
    rw [decide_eq_true hl]
    go_enter Tryd.func35, Tryd.ntmps35
    go_wp2
    go_ret
    exact ⟨rfl, Below.refl _ _⟩
  · have hlz : ¬ (m : Int) < (n : Int) := by omega
    rw [decide_eq_false hl]
    go_enter Tryd.func35, Tryd.ntmps35
    go_wp2
    go_loopw [5] (fun vi wr => wr = w ∧ ∃ i : Nat, i ≤ n ∧ vi = .int .i64 i ∧ Hid (l.any longC1 = (l.drop i).any longC1)) (fun vi _ => n - (intOf vi).toNat)
    case atStart => exact ⟨rfl, 0, Nat.zero_le _, rfl, rfl⟩
    case round =>
      obtain ⟨rfl, i, hi, rfl, HA⟩ := hrel
      by_cases hlt : i < n
      · have hin : i < l.length := by rw [HN.out]; exact hlt
        have hltz : (i : Int) < (n : Int) := by omega
        have hltd : decide ((i : Int) < (n : Int)) = true := decide_eq_true hltz
        obtain ⟨b, off, rfl, hhc⟩ := HH.out (by omega)
        obtain ⟨c, hc⟩ : ∃ c, l[i] = c := ⟨_, rfl⟩
        have P : wr.cell? ⟨b, off + i * 8, none⟩ = some (.string c.r) ∧ wr.cell? ⟨b, off + i * 8 + 1, none⟩ = some (.string c.f) ∧ wr.cell? ⟨b, off + i * 8 + 2, none⟩ = some (.string c.q) ∧ wr.cell? ⟨b, off + i * 8 + 3, none⟩ = some (.int .i64 c.t) ∧ wr.cell? ⟨b, off + i * 8 + 4, none⟩ = some (.int .i64 c.k) ∧ wr.cell? ⟨b, off + i * 8 + 5, none⟩ = some (.int .i64 c.vk) ∧ wr.cell? ⟨b, off + i * 8 + 6, none⟩ = some (.int .i64 c.vn) ∧ wr.cell? ⟨b, off + i * 8 + 7, none⟩ = some (.string c.s) := by
          rw [← hc]
          exact hhc.words i hin
        have HD : Hid (l.any longC1 = (longC1 c || (l.drop (i + 1)).any longC1)) := by
          unfold Hid
          rw [HA.out, List.drop_eq_getElem_cons hin, hc]
          rfl
        obtain ⟨p0, p1, p2, p3, p4, p5, p6, p7⟩ := P
        clear hc hhc HA
        by_cases h1 : 60 < c.r.size
        · have h1z : (60 : Int) < (c.r.size : Int) := by omega
          have HE : Hid (l.any longC1 = true) := by unfold Hid; rw [HD.out]; simp [longC1, h1]
          clear h1
          go_wp2
          go_ret
          exact ⟨by rw [HE.out]; rfl, Below.refl _ _⟩
        have h1z : ¬ (60 : Int) < (c.r.size : Int) := by omega
        by_cases h2 : 60 < c.f.size
        · have h2z : (60 : Int) < (c.f.size : Int) := by omega
          have HE : Hid (l.any longC1 = true) := by unfold Hid; rw [HD.out]; simp [longC1, h2]
          clear h1 h2
          go_wp2
          go_ret
          exact ⟨by rw [HE.out]; rfl, Below.refl _ _⟩
        have h2z : ¬ (60 : Int) < (c.f.size : Int) := by omega
        by_cases h3 : 60 < c.q.size
        · have h3z : (60 : Int) < (c.q.size : Int) := by omega
          have HE : Hid (l.any longC1 = true) := by unfold Hid; rw [HD.out]; simp [longC1, h3]
          clear h1 h2 h3
          go_wp2
          go_ret
          exact ⟨by rw [HE.out]; rfl, Below.refl _ _⟩
        have h3z : ¬ (60 : Int) < (c.q.size : Int) := by omega
        by_cases h4 : 100 < c.s.size
        · have h4z : (100 : Int) < (c.s.size : Int) := by omega
          have HE : Hid (l.any longC1 = true) := by unfold Hid; rw [HD.out]; simp [longC1, h4]
          clear h1 h2 h3 h4
          go_wp2
          go_ret
          exact ⟨by rw [HE.out]; rfl, Below.refl _ _⟩
        have h4z : ¬ (100 : Int) < (c.s.size : Int) := by omega
        have HE : Hid (l.any longC1 = (l.drop (i + 1)).any longC1) := by
          unfold Hid
          rw [HD.out]
          simp [longC1, h1, h2, h3, h4]
        clear h1 h2 h3 h4
        go_wp2
        go_roundw
        case rel => exact ⟨trivial, i + 1, by omega, by go_num, HE.out⟩
        case measure => simp [intOf]; omega
      · obtain rfl : i = n := by omega
        have HE : Hid (l.any longC1 = false) := by
          unfold Hid
          rw [HA.out, List.drop_of_length_le (by rw [HN.out]; exact Nat.le_refl _)]
          rfl
        go_wp2
        go_ret
        exact ⟨by rw [HE.out]; rfl, Below.refl _ _⟩
end Go.Proofs.YtlkbhohpgfhbmaaDoor

/- The fixed part of layer 7's laws: alive. Conditions: the tables of utf8 read as they are laid. -/
namespace Go.Proofs.YtlkbhohpgfhbmaaDoor
open Go.RowKit

/-- A table of the call's own stands. -/
structure MeS (B mb : Nat) (l : List CT) (w W : World) : Prop where
  out : MemOf W B mb l ∧ KT memTs B w W ∧ B ≤ W.heap.size
theorem MeS.below {B mb : Nat} {l : List CT} {w W W' : World} (h : MeS B mb l w W) (hb : Below W.heap.size W W') : MeS B mb l w W' := by
  obtain ⟨h1, h2, h3⟩ := h.out
  exact ⟨h1.below hb, h2.trans (KT.of_below hb h3), Nat.le_trans h3 hb.size⟩
theorem ms_new {w w' : World} {mb : Nat} (h : MemOf w' w.heap.size mb []) (hb : Below w.heap.size w w') : MeS w.heap.size mb [] w w' := ⟨h, KT.of_below hb (Nat.le_refl _), hb.size⟩
theorem ms_put {B mb : Nat} {l : List CT} {w W : World} {c : CT} (h : MeS B mb l w W) (hL : LaidU w) (hBw : w.heap.size ≤ B) (hc : okC c) (hcs : c.s.size ≤ 1000) (hok : c.ok = true) (hlen : l.length ≤ 1000000) (hby : bytesL l ≤ 1000000000) (hel : encL c ≤ 1000000) :
    Calls Tryd.prog 37 #[.pointer (some ⟨mb, 0, none⟩), c.v] W fun e w' => e = .returned (.bool true) ∧ MeS B mb (putL l c) w w' := by
  obtain ⟨h1, h2, h3⟩ := h.out
  exact (put_yes mb l c B W h1 hc hcs hok (hL.below (h2.b.mono hBw)) h3 hlen hby hel).mono fun e w' ⟨q1, q2, q3⟩ => ⟨q1, ⟨q2, h2.trans q3, Nat.le_trans h3 q3.b.size⟩⟩

theorem zero_okC : okC (default : CT) := ⟨by show (0 : Nat) ≤ _; omega, by show (0 : Nat) ≤ _; omega, by show inI 0; unfold inI; omega⟩
theorem mes_get {B mb : Nat} {l : List CT} {w W : World} {c x : CT} (h : MeS B mb l w W) (hx : getL l c = some x) :
    Calls Tryd.prog 40 #[.pointer (some ⟨mb, 0, none⟩), c.v] W fun e w' => e = .returned (.tuple #[x.v, .bool true]) ∧ Below W.heap.size W w' := by
  refine (get_any mb l c B W h.out.1).mono fun e w' ⟨q1, q2⟩ => ⟨?_, q2⟩
  rw [q1, hx]
  rfl
theorem mes_row {B mb : Nat} {l : List CT} {w W : World} {row : ByteArray} {n : Nat} (h : MeS B mb l w W) (hl : l.length ≤ 100000) (hn : (rowL l row).length = n) :
    Calls Tryd.prog 43 #[.pointer (some ⟨mb, 0, none⟩), .string row] W fun e w' => ∃ A c, e = .returned (.slice A n c) ∧ Below W.heap.size W w' := by
  refine (row_any mb B l row hl W h.out.1).mono fun e w' ⟨v, q1, q2, q3⟩ => ?_
  obtain ⟨A, c, e1, _⟩ := q2.len
  exact ⟨A, c, by rw [q1, e1, hn], q3⟩
set_option maxHeartbeats 4000000 in
set_option maxRecDepth 100000 in
theorem malive_any (w : World) (hL : LaidU w) : Calls Tryd.prog 34 #[] w fun e w' => e = .returned (.bool true) ∧ Below w.heap.size w w' := by
  have mixed : Tryd.prog.follows .mixedOrders = true := by kernel_rfl
  obtain ⟨pm, hpm⟩ : ∃ f : ByteArray → Int → Value, (fun r n => (putM r n).v) = f := ⟨_, rfl⟩
  have hpv : ∀ r n, pm r n = (putM r n).v := fun r n => by rw [← hpm]
  have HP : Hid (∀ r n w, Calls Tryd.prog 74 #[.string r, .int .i64 n] w fun e w' => e = .returned (pm r n) ∧ Below w.heap.size w w') := fun r n w => by rw [hpv]; exact putm_any r n w
  have H1 : Hid (∀ mb W, MeS w.heap.size mb [] w W → Calls Tryd.prog 37 #[.pointer (some ⟨mb, 0, none⟩), pm bB 1] W fun e w' => e = .returned (.bool true) ∧ MeS w.heap.size mb [putM bB 1] w w') := fun mb W h => by
    rw [hpv]
    exact ms_put h hL (Nat.le_refl _) (putm_okC _ _ (by unfold inI; omega)) (by show (0 : Nat) ≤ _; omega) putm_ok1 (by decide) putm_b0 putm_e1
  have H2 : Hid (∀ mb W, MeS w.heap.size mb [putM bB 1] w W → Calls Tryd.prog 37 #[.pointer (some ⟨mb, 0, none⟩), pm bB 2] W fun e w' => e = .returned (.bool true) ∧ MeS w.heap.size mb [putM bB 2] w w') := fun mb W h => by
    rw [hpv]
    exact ms_put h hL (Nat.le_refl _) (putm_okC _ _ (by unfold inI; omega)) (by show (0 : Nat) ≤ _; omega) putm_ok2 (by decide) putm_b1 putm_e2
  have H3 : Hid (∀ mb W, MeS w.heap.size mb [putM bB 2] w W → Calls Tryd.prog 37 #[.pointer (some ⟨mb, 0, none⟩), pm bA 3] W fun e w' => e = .returned (.bool true) ∧ MeS w.heap.size mb [putM bA 3, putM bB 2] w w') := fun mb W h => by
    rw [hpv]
    exact ms_put h hL (Nat.le_refl _) (putm_okC _ _ (by unfold inI; omega)) (by show (0 : Nat) ≤ _; omega) putm_ok3 (by decide) putm_b2 putm_e3
  have H0 : Hid (∀ mb W, MeS w.heap.size mb [putM bA 3, putM bB 2] w W → Calls Tryd.prog 37 #[.pointer (some ⟨mb, 0, none⟩), .agg #[.string ⟨#[]⟩, .string ⟨#[]⟩, .string ⟨#[]⟩, .int .i64 0, .int .i64 0, .int .i64 0, .int .i64 0, .string ⟨#[]⟩]] W fun e w' => e = .returned (.bool false) ∧ Below W.heap.size W w') := fun mb W h =>
    put_no mb default W zero_okC none_ok (hL.below h.out.2.1.b)
  have HG : Hid (∀ mb W, MeS w.heap.size mb [putM bA 3, putM bB 2] w W → Calls Tryd.prog 40 #[.pointer (some ⟨mb, 0, none⟩), pm bB 9] W fun e w' => e = .returned (.tuple #[.agg #[.string bB, .string ⟨#[102]⟩, .string ⟨#[113]⟩, .int .i64 1, .int .i64 1, .int .i64 1, .int .i64 2, .string ⟨#[]⟩], .bool true]) ∧ Below W.heap.size W w') := fun mb W h => by rw [hpv]; exact mes_get h putm4
  have HC : Hid (∀ mb W, MeS w.heap.size mb [putM bA 3, putM bB 2] w W → Calls Tryd.prog 39 #[.pointer (some ⟨mb, 0, none⟩)] W fun e w' => e = .returned (.int .i64 2) ∧ w' = W) := fun mb W h => count_any mb _ _ W h.out.1
  obtain ⟨nb, hnb⟩ : ∃ nb, bytesL [putM bA 3, putM bB 2] = nb := ⟨_, rfl⟩
  have nbp : 0 < nb := hnb ▸ putm_b3
  have HB : Hid (∀ mb W, MeS w.heap.size mb [putM bA 3, putM bB 2] w W → Calls Tryd.prog 45 #[.pointer (some ⟨mb, 0, none⟩)] W fun e w' => e = .returned (.int .i64 (nb : Int)) ∧ w' = W) := fun mb W h => hnb ▸ bytes_any mb _ _ W h.out.1
  have HR : Hid (∀ mb W, MeS w.heap.size mb [putM bA 3, putM bB 2] w W → Calls Tryd.prog 43 #[.pointer (some ⟨mb, 0, none⟩), .string bA] W fun e w' => ∃ A c, e = .returned (.slice A 1 c) ∧ Below W.heap.size W w') := fun mb W h => mes_row h (by decide) (by rw [putm5]; rfl)
  clear hL hnb hpm hpv
  go_enter Tryd.func34, Tryd.ntmps34
  go_wp2_with (first
    | (go_at_call 36; refine (new_any _).mono ?_; rintro e w1 ⟨mb, rfl, hM1, hb1⟩; have HS := ms_new hM1 hb1; clear hM1 hb1)
    | (go_at_call 74; refine (HP.out _ _ _).mono ?_; rintro e w5 ⟨rfl, hb5⟩; have HS := MeS.below HS hb5; clear hb5)
    | (go_at_call 37; first
        | (have hq := H1.out _ _ HS; refine hq.mono ?_; clear hq; rintro e w6 ⟨rfl, HS⟩)
        | (have hq := H2.out _ _ HS; refine hq.mono ?_; clear hq; rintro e w6 ⟨rfl, HS⟩)
        | (have hq := H3.out _ _ HS; refine hq.mono ?_; clear hq; rintro e w6 ⟨rfl, HS⟩)
        | (have hq := H0.out _ _ HS; refine hq.mono ?_; clear hq; rintro e w6 ⟨rfl, hb6⟩; have HS := MeS.below HS hb6; clear hb6))
    | (go_at_call 40; have hq := HG.out _ _ HS; refine hq.mono ?_; clear hq; rintro e w7 ⟨rfl, hb7⟩; have HS := MeS.below HS hb7; clear hb7)
    | (go_at_call 39; have HS := MeS.below HS (below_new _ (.cells #[.string bB, .string ⟨#[102]⟩, .string ⟨#[113]⟩, .int .i64 1, .int .i64 1, .int .i64 1, .int .i64 2, .string ⟨#[]⟩] 28)); have hq := HC.out _ _ HS; refine hq.mono ?_; clear hq; rintro e w8 ⟨rfl, e8⟩; subst e8)
    | (go_at_call 45; have hq := HB.out _ _ HS; refine hq.mono ?_; clear hq; rintro e w8 ⟨rfl, e8⟩; subst e8)
    | (go_at_call 43; have hq := HR.out _ _ HS; refine hq.mono ?_; clear hq; rintro e w9 ⟨A9, c9, rfl, hb9⟩; have HS := MeS.below HS hb9; clear hb9))
  go_ret
  exact ⟨rfl, HS.out.2.1.b⟩
end Go.Proofs.YtlkbhohpgfhbmaaDoor

/- How many bytes a table's cells have at most; a put whatever the cell. Conditions: as each theorem names them. -/
namespace Go.Proofs.YtlkbhohpgfhbmaaDoor
open Go.RowKit

theorem encL_le {c : CT} (hok : c.ok = true) (hs : c.s.size ≤ 1000) : encL c ≤ 3000 := by
  obtain ⟨h5, h6, h7⟩ := ok_small hok
  have h1 := esc_len c.r.data.toList
  have h2 := esc_len c.f.data.toList
  have h3 := esc_len c.q.data.toList
  have h4 := esc_len c.s.data.toList
  have e1 : c.r.data.toList.length = c.r.size := rfl
  have e2 : c.f.data.toList.length = c.f.size := rfl
  have e3 : c.q.data.toList.length = c.q.size := rfl
  have e4 : c.s.data.toList.length = c.s.size := rfl
  unfold encL cEnc keyM midM vEnc vBody
  repeat' split
  all_goals (simp only [List.length_append, List.length_cons, List.length_nil, tail_len, byW_len]; omega)
theorem bytesL_le : ∀ {l : List CT}, (∀ c ∈ l, c.ok = true ∧ okC c ∧ c.s.size ≤ 1000) → bytesL l ≤ 3000 * l.length
  | [], _ => by decide
  | c :: l, h => by
    have h1 := bytesL_le (l := l) fun x hx => h x (List.mem_cons_of_mem _ hx)
    have h2 := encL_le (h c List.mem_cons_self).1 (h c List.mem_cons_self).2.2
    show encL c + bytesL l ≤ 3000 * (l.length + 1)
    omega
theorem MemOf.okl {w : World} {B mb : Nat} {l : List CT} (h : MemOf w B mb l) : ∀ c ∈ l, c.ok = true ∧ okC c ∧ c.s.size ≤ 1000 := by
  obtain ⟨hd, L, h⟩ := h
  exact h.ok
theorem MemOf.rise {w : World} {B mb : Nat} {l : List CT} (h : MemOf w B mb l) : l.Pairwise (fun x y => CT.cmp x y < 0) := by
  obtain ⟨hd, L, h⟩ := h
  exact h.rise
/-- The cells with c in its place, if it is right. -/
def putR (l : List CT) (c : CT) : List CT := if c.ok then putL l c else l
theorem filter_two {p q : CT → Bool} : ∀ {l : List CT}, (∀ x, p x = true → q x = false) → (l.filter p).length + (l.filter q).length ≤ l.length
  | [], _ => Nat.le_refl _
  | x :: l, h => by
    have ih := filter_two (l := l) h
    rw [List.filter_cons, List.filter_cons, List.length_cons]
    cases hp : p x with
    | true => rw [h x hp]; simp only [if_true, List.length_cons, Bool.false_eq_true, if_false]; omega
    | false => cases hq : q x <;> simp only [if_true, List.length_cons, Bool.false_eq_true, if_false] <;> omega
theorem putR_len (l : List CT) (c : CT) : (putR l c).length ≤ l.length + 1 := by
  unfold putR
  split
  · unfold putL
    have := filter_two (p := fun x => decide (CT.cmp x c < 0)) (q := fun x => decide (0 < CT.cmp x c)) (l := l) fun x hx => by
      have := of_decide_eq_true hx
      exact decide_eq_false (by omega)
    rw [List.length_append, List.length_cons]
    omega
  · omega
/-- Put, whatever the cell. -/
theorem mes_put {B mb : Nat} {l : List CT} {w W : World} {c : CT} (h : MeS B mb l w W) (hL : LaidU w) (hBw : w.heap.size ≤ B) (hc : okC c) (hcs : c.s.size ≤ 1000) (hlen : l.length ≤ 100000) :
    Calls Tryd.prog 37 #[.pointer (some ⟨mb, 0, none⟩), c.v] W fun e w' => e = .returned (.bool c.ok) ∧ MeS B mb (putR l c) w w' := by
  have hM := h.out.1
  cases hok : c.ok with
  | true =>
    have e : putR l c = putL l c := by unfold putR; rw [if_pos hok]
    rw [e]
    have hb := bytesL_le hM.okl
    have he := encL_le hok hcs
    exact ms_put h hL hBw hc hcs hok (by omega) (by omega) (by omega)
  | false =>
    have e : putR l c = l := by unfold putR; rw [if_neg (by rw [hok]; decide)]
    rw [e]
    exact (put_no mb c W hc hok (hL.below (h.out.2.1.b.mono hBw))).mono fun e w' ⟨q1, q2⟩ => ⟨q1, h.below q2⟩
theorem MeS.drew {B mb : Nat} {l : List CT} {w W : World} (h : MeS B mb l w W) : MeS B mb l w W.drew := h.below (Below.refl _ _).drew
end Go.Proofs.YtlkbhohpgfhbmaaDoor

/- The statement of layer 7: Bytes and Count are what all cells have. Conditions: the argument stands, its numbers are of 64 bits; the tables of utf8 read as they are laid. -/
namespace Go.Proofs.YtlkbhohpgfhbmaaDoor
open Go.RowKit

theorem ct_words {w : World} {b off : Nat} {l : List CT} (h : HC w b off l) (i : Nat) {c : CT} (hc : l[i]? = some c) : w.cell? ⟨b, off + i * 8, none⟩ = some (.string c.r) ∧ w.cell? ⟨b, off + i * 8 + 1, none⟩ = some (.string c.f) ∧ w.cell? ⟨b, off + i * 8 + 2, none⟩ = some (.string c.q) ∧ w.cell? ⟨b, off + i * 8 + 3, none⟩ = some (.int .i64 c.t) ∧ w.cell? ⟨b, off + i * 8 + 4, none⟩ = some (.int .i64 c.k) ∧ w.cell? ⟨b, off + i * 8 + 5, none⟩ = some (.int .i64 c.vk) ∧ w.cell? ⟨b, off + i * 8 + 6, none⟩ = some (.int .i64 c.vn) ∧ w.cell? ⟨b, off + i * 8 + 7, none⟩ = some (.string c.s) := by
  obtain ⟨hi, hc⟩ := List.getElem?_eq_some_iff.1 hc
  rw [← hc]
  exact h.words i hi

theorem bytesL_app (p q : List CT) : bytesL (p ++ q) = bytesL p + bytesL q := by
  unfold bytesL
  rw [List.map_append, List.sum_append]
theorem refE_yes (c : CT) (hok : c.ok = true) (ho : okC c) (hs : c.s.size ≤ 1000) (w : World) :
    Calls Tryd.prog 49 #[c.v] w fun e w' => ∃ g cap, e = .returned (.tuple #[.slice (some ⟨g, 0, none⟩) (encL c) cap, .bool true]) ∧ Below w.heap.size w w' := by
  obtain ⟨h1, h2, h3⟩ := ok_small hok
  refine (refenc_yes c.r c.f c.q c.s c.t c.k c.vk ho.2.2 (by omega) (by omega) (by omega) (by omega) w hok).mono fun e w' ⟨v, he, hr, hb⟩ => ?_
  have hp : 0 < (cEnc c.r.data.toList c.f.data.toList c.q.data.toList c.t c.k c.vk c.vn c.s.data.toList).length := by
    unfold cEnc keyM
    simp only [List.length_append, List.length_cons]
    omega
  obtain ⟨g, cap, rfl, _⟩ := hr.form hp
  exact ⟨g, cap, he, hb⟩

set_option maxHeartbeats 4000000 in
set_option maxRecDepth 100000 in
theorem membytes_any (v : Value) (l : List CT) (w : World) (h : ClA w v l) (hv : ∀ c ∈ l, inI c.vn) (hL : LaidU w) :
    Calls Tryd.prog 13 #[v] w fun e w' => e = .returned (.bool true) ∧ Below w.heap.size w w' := by
  have mixed : Tryd.prog.follows .mixedOrders = true := by kernel_rfl
  have HA := hid (malive_any w hL)
  have HLg : Hid (∀ W, Below w.heap.size w W → Calls Tryd.prog 35 #[v, .int .i64 200] W fun e w' => e = .returned (.bool (longM 200 l)) ∧ Below W.heap.size W w') := fun W hb => longcells_at 200 v l W (h.below hb)
  cases hg : longM 200 l with
  | true =>
    rw [hg] at HLg
    clear h hv hL hg
    go_enter Tryd.func13, Tryd.ntmps13
    go_wp2_with (first | (go_at_call 34; refine HA.out.mono ?_; rintro e w5 ⟨rfl, hb5⟩) | (go_at_call 35; refine (HLg.out _ hb5).mono ?_; rintro e w6 ⟨rfl, hb6⟩))
    go_ret
    exact ⟨rfl, hb5.trans (hb6.mono hb5.size)⟩
  | false =>
    rw [hg] at HLg
    obtain ⟨hl, hok⟩ := longM_ok hg hv
    obtain ⟨A, cc, rfl, hc1, hc2, hh⟩ := h
    obtain ⟨n, hn⟩ : ∃ n, l.length = n := ⟨_, rfl⟩
    have HN := hid hn
    rw [hn] at hc1 hh hl HLg ⊢
    have HH := hid hh
    have HO := hid hok
    have HLa := hid hL
    clear hn hh hv hL hg hok
    go_enter Tryd.func13, Tryd.ntmps13
    go_wp2_with (first
      | (go_at_call 34; refine HA.out.mono ?_; rintro e w5 ⟨rfl, hb5⟩)
      | (go_at_call 35; refine (HLg.out _ hb5).mono ?_; rintro e w6 ⟨rfl, hb6⟩)
      | (go_at_call 36; refine (new_any _).mono ?_; rintro e w1 ⟨mb, rfl, hM1, hb1⟩))
    have HB6 : Hid (Below w.heap.size w w6) := hb5.trans (hb6.mono hb5.size)
    have HS1 := ms_new hM1 hb1
    have HP : Hid (∀ W d c, MeS w6.heap.size mb d w6 W → d.length ≤ 100000 → c ∈ l → Calls Tryd.prog 37 #[.pointer (some ⟨mb, 0, none⟩), c.v] W fun e w' => e = .returned (.bool c.ok) ∧ MeS w6.heap.size mb (putR d c) w6 w') := fun W d c h hd hc =>
      mes_put h (HLa.out.below HB6.out) (Nat.le_refl _) (HO.out c hc).1 (by have := (HO.out c hc).2.2.2.2; omega) hd
    have HRi : Hid (∀ c, c ∈ l → ∀ W, Calls Tryd.prog 27 #[c.v] W fun e w' => e = .returned (.bool c.ok) ∧ Below W.heap.size W w') := fun c hc W =>
      refcright_any c.r c.f c.q c.s c.t c.k c.vk c.vn (by have := (HO.out c hc).2.2.1; omega) (by have := (HO.out c hc).2.2.2.2; omega) W
    clear HA HLg hb5 hb6 hM1 hb1
    go_loopw [4] (fun vi wr => ∃ (i : Nat) (d : List CT), i ≤ n ∧ vi = .int .i64 i ∧ d.length ≤ i ∧ MeS w6.heap.size mb d w6 wr) (fun vi _ => n - (intOf vi).toNat)
    case atStart => exact ⟨0, [], Nat.zero_le _, rfl, Nat.le_refl _, HS1⟩
    case round =>
      clear HS1
      obtain ⟨i, d, hi, rfl, hd, HS⟩ := hrel
      by_cases hlt : i < n
      · have hin : i < l.length := by rw [HN.out]; exact hlt
        obtain ⟨b, off, rfl, hhc⟩ := HH.out (by omega)
        have hbw : b < w.heap.size := hhc.lt (by rw [HN.out]; omega)
        have hltz : (i : Int) < (n : Int) := by omega
        obtain ⟨c, hc⟩ : ∃ c, l[i]? = some c := ⟨_, List.getElem?_eq_getElem hin⟩
        have hcl : c ∈ l := List.mem_of_getElem? hc
        have HCW : Hid (∀ W d', MeS w6.heap.size mb d' w6 W → HC W b off l) := fun W d' q => hhc.below (HB6.out.trans (q.out.2.1.b.mono HB6.out.size)) hbw
        have HEC := hid hc
        have HPc := hid (HP.out wr.drew d c HS.drew (by omega) hcl)
        have HRc := hid (HRi.out c hcl)
        obtain ⟨p0, p1, p2, p3, p4, p5, p6, p7⟩ := ct_words (HCW.out _ _ HS.drew) i hc
        obtain ⟨q0, q1, q2, q3, q4, q5, q6, q7⟩ := ct_words (HCW.out _ _ HS) i hc
        obtain ⟨ok, hok⟩ : ∃ b, c.ok = b := ⟨_, rfl⟩
        have hokk : (ok != ok) = false := by cases ok <;> rfl
        rw [hok] at HPc HRc
        clear hhc hcl hin hc hok HP HRi
        go_upto_region 9 with (fail)
        go_region_with (first
          | (go_at_call 37; refine HPc.out.mono ?_; rintro e w8 ⟨rfl, HS8⟩; obtain ⟨z0, z1, z2, z3, z4, z5, z6, z7⟩ := ct_words (HCW.out _ _ HS8) i HEC.out)
          | (go_at_call 27; refine (HRc.out _).mono ?_; rintro e w9 ⟨rfl, hb9⟩; have HS9 := MeS.below HS8 hb9))
        all_goals (
          clear z0 z1 z2 z3 z4 z5 z6 z7 p0 p1 p2 p3 p4 p5 p6 p7 q0 q1 q2 q3 q4 q5 q6 q7 HPc HRc HEC HCW
          go_wp2
          go_roundw
          case rel => exact ⟨i + 1, putR d c, by omega, by go_num, by have := putR_len d c; omega, HS9⟩
          case measure => simp [intOf]; omega)
      · obtain rfl : i = n := by omega
        have hd5 : d.length ≤ 200 := by omega
        have HB0 : Hid (Below w.heap.size w wr) := HB6.out.trans (HS.out.2.1.b.mono HB6.out.size)
        have HAl : Hid (Calls Tryd.prog 42 #[.pointer (some ⟨mb, 0, none⟩)] wr fun e w' => ∃ v, e = .returned v ∧ CRow w' wr.heap.size v d ∧ Below wr.heap.size wr w') := allC_any mb w6.heap.size d (by omega) wr HS.out.1
        have HD := hid HS.out.1.okl
        have HBL : Hid (bytesL d ≤ 600000) := by have := bytesL_le HS.out.1.okl; unfold Hid; omega
        have HBy : Hid (∀ W, MeS w6.heap.size mb d w6 W → Calls Tryd.prog 45 #[.pointer (some ⟨mb, 0, none⟩)] W fun e w' => e = .returned (.int .i64 (bytesL d : Int)) ∧ w' = W) := fun W h => bytes_any mb _ _ W h.out.1
        have HCo : Hid (∀ W, MeS w6.heap.size mb d w6 W → Calls Tryd.prog 39 #[.pointer (some ⟨mb, 0, none⟩)] W fun e w' => e = .returned (.int .i64 (d.length : Int)) ∧ w' = W) := fun W h => count_any mb _ _ W h.out.1
        clear hd HP HRi HO HLa HH HN
        go_wp2_with (go_at_call 42; refine HAl.out.mono ?_; rintro e w7 ⟨v7, rfl, hr7, hb7⟩; have K7 := hid hr7.cla; have HS7 := MeS.below HS hb7; clear hr7; obtain ⟨A7, c7, rfl, hc7, hm7, hh7⟩ := K7.out; have HH := hid hh7; clear hh7 K7; obtain ⟨m, hm⟩ : ∃ m, d.length = m := ⟨_, rfl⟩; have HM := hid hm; rw [hm] at hc7 hd5 HCo ⊢; clear hm)
        have HEn : Hid (∀ c, c ∈ d → ∀ W, Calls Tryd.prog 49 #[c.v] W fun e w' => ∃ g cap, e = .returned (.tuple #[.slice (some ⟨g, 0, none⟩) (encL c) cap, .bool true]) ∧ Below W.heap.size W w') := fun c hc W => refE_yes c (HD.out c hc).1 (HD.out c hc).2.1 (HD.out c hc).2.2 W
        have HBz : Hid (Below w.heap.size w w7) := HB0.out.trans (hb7.mono HB0.out.size)
        clear HB0 hb7 HAl
        go_loopw [6, 7] (fun vn vi wr2 => Hid (Below w7.heap.size w7 wr2) ∧ ∃ j : Nat, j ≤ m ∧ vi = .int .i64 j ∧ vn = .int .i64 (bytesL (d.take j) : Int)) (fun _ vi _ => m - (intOf vi).toNat)
        case atStart => exact ⟨Below.refl _ _, 0, Nat.zero_le _, rfl, rfl⟩
        case round =>
          obtain ⟨HB2, j, hj, rfl, rfl⟩ := hrel
          by_cases hlt2 : j < m
          · have hjn : j < d.length := by rw [HM.out]; exact hlt2
            obtain ⟨b, off, rfl, hhc⟩ := HH.out (by omega)
            have hbw : b < w7.heap.size := hhc.lt (by rw [HM.out]; omega)
            have hltz : (j : Int) < (m : Int) := by omega
            obtain ⟨c, hc⟩ : ∃ c, d[j]? = some c := ⟨_, List.getElem?_eq_getElem hjn⟩
            obtain ⟨p0, p1, p2, p3, p4, p5, p6, p7⟩ := ct_words (hhc.below HB2.out hbw) j hc
            have HEc := hid (HEn.out c (List.mem_of_getElem? hc))
            have HSu : Hid (bytesL (d.take (j + 1)) = bytesL (d.take j) + encL c ∧ bytesL (d.take (j + 1)) ≤ 600000) := by
              have e1 : d.take (j + 1) = d.take j ++ [c] := by rw [List.take_add_one, hc]; rfl
              have e2 : bytesL (d.take (j + 1)) = bytesL (d.take j) + encL c := by rw [e1, bytesL_app]; rfl
              refine ⟨e2, ?_⟩
              have e3 : bytesL d = bytesL (d.take (j + 1)) + bytesL (d.drop (j + 1)) := by rw [← bytesL_app, List.take_append_drop]
              have := HBL.out
              omega
            obtain ⟨x, hx⟩ : ∃ x, bytesL (d.take j) = x := ⟨_, rfl⟩
            obtain ⟨y, hy⟩ : ∃ y, encL c = y := ⟨_, rfl⟩
            rw [hx, hy] at HSu
            rw [hy] at HEc
            rw [hx]
            have hxy : IntKind.i64.wrap ((x : Int) + (y : Int)) = (x : Int) + (y : Int) := by
              have := HSu.out
              rw [IntKind.wrap_i64]; omega
            clear hx hy hc hhc hjn
            go_wp2_with (go_at_call 49; refine (HEc.out _).mono ?_; rintro e w9 ⟨g9, c9, rfl, hb9⟩)
            go_roundw
            case rel => exact ⟨HB2.out.trans (hb9.mono HB2.out.size), j + 1, by omega, by go_num, by rw [HSu.out.1]; go_num⟩
            case measure => simp [intOf]; omega
          · obtain rfl : j = m := by omega
            have e1 : d.take j = d := List.take_of_length_le (by rw [HM.out]; exact Nat.le_refl _)
            rw [e1]
            have HSe := MeS.below HS7 HB2.out
            clear e1 HH HEn
            go_wp2_with (first
              | (go_at_call 45; refine (HBy.out _ HSe).mono ?_; rintro e w8 ⟨rfl, e8⟩; subst e8)
              | (go_at_call 39; refine (HCo.out _ HSe).mono ?_; rintro e w8 ⟨rfl, e8⟩; subst e8))
            go_ret
            exact ⟨rfl, HBz.out.trans (HB2.out.mono HBz.out.size)⟩
end Go.Proofs.YtlkbhohpgfhbmaaDoor
