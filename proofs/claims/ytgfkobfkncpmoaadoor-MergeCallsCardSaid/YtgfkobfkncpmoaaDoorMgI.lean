/- Next tells the least cell, and passes over what is of its place. Conditions: the merger stands. -/
import Derived.Test.YtgfkobfkncpmoaaDoorMgH
import Derived.Laws.Tables
import Derived.Laws.ResultCell
namespace Go.Proofs.YtgfkobfkncpmoaaDoor
open Go.RowKit

theorem results_cell_two_row {P : Program} {fn : Func} {p u u2 : Tmp} {ty : TypeId} (h : fn.results = #[.cell p ty, .tmp u, .tmp u2]) (tmps : Array Value) (w : World) (g : Nat) (t : TypeId) (cs : Array Value) (d : TypeDesc) (hp : tmps.getD p undef = .pointer (some ⟨g, 0, none⟩)) (hg : Blk w g t cs)
    (hu : P.underlying ty = some d) (hd : (match d with | .struct _ | .array _ _ => true | _ => false) = true) (hi : (P.info? ty).map (·.size) = some cs.size) (b b2 : Value) (hb : tmps.getD u undef = b) (hb2 : tmps.getD u2 undef = b2) :
    (results fn tmps).run P w = .ok (.tuple #[.agg cs, b, b2]) w := by
  have e : (results fn tmps).run P w = ((asAddr (tmps.getD p undef)).run P w).andThen fun a w₁ => ((loadVar ty a).run P w₁).andThen fun v w₂ => .ok (.tuple #[v, tmps.getD u undef, tmps.getD u2 undef]) w₂ := by
    simp only [results, h]
    simp [Sem.run_bind, Result.andThen]
  rw [e, hp, hb, hb2]
  simp [asAddr, run_loadVar_row w g t ty cs (0, 0) d hg hu hd hi, Result.andThen]
theorem setRow_ne9 {w : World} {g k : Nat} {xs : Array Value} (h : k ≠ g) : (w.setRow g xs).heap[k]? = w.heap[k]? := by
  simp only [World.setRow, Array.getElem?_modify]
  rw [if_neg (fun e => h e.symm)]
theorem below_row9 {w W : World} {g : Nat} {xs : Array Value} (h : Below w.heap.size w W) (hg : w.heap.size ≤ g) : Below w.heap.size w (W.setRow g xs) := h.trans ⟨rfl, rfl, rfl, by simp, fun k hk => setRow_ne9 (by omega)⟩

/-- How many cells a merger tells that are left. -/
def leftM (mb : Nat) (w : World) : Nat := match w.cell? ⟨mb, 1, none⟩ with
  | some (.int _ z) => z.toNat
  | _ => 0
theorem leftM_is {w : World} {B mb g cap C n : Nat} {l : List Mx} (h : MAg w B mb g cap C l n) : leftM mb w = n := by
  have e : w.cell? ⟨mb, 1, none⟩ = some (.int .i64 (n : Int)) := h.blk.cell 1
  unfold leftM
  rw [e]
  simp
/-- A round of Next: the merger, the answer's cell, the cell that was told. -/
structure NxM (w W : World) (B mb g cap C cb : Nat) (c : CT) (l : List Mx) : Prop where
  at' : MAg W B mb g cap C l (cntR (l.map Mx.r))
  ch : Chy g mb w W
  rs : Blk W w.heap.size 28 (default : CT).e.toArray
  ce : Blk W cb 28 c.e.toArray
  gl : g < w.heap.size
  ml : mb < w.heap.size
  cl : w.heap.size ≤ cb
theorem NxM.below {w W W2 : World} {B mb g cap C cb : Nat} {c : CT} {l : List Mx} (h : NxM w W B mb g cap C cb c l) (hb : Below W.heap.size W W2) : NxM w W2 B mb g cap C cb c l :=
  ⟨h.at'.below hb, h.ch.trans (Chy.of hb), h.rs.keep hb h.rs.lt, h.ce.keep hb h.ce.lt, h.gl, h.ml, h.cl⟩
theorem NxM.go {w W W2 : World} {B mb g cap C cb : Nat} {c : CT} {l l2 : List Mx} (h : NxM w W B mb g cap C cb c l) (h2 : MAg W2 B mb g cap C l2 (cntR (l2.map Mx.r))) (hc : Chy g mb W W2) : NxM w W2 B mb g cap C cb c l2 :=
  ⟨h2, h.ch.trans hc, h.rs.stay9 (hc.block _ h.rs.lt (by have := h.gl; omega) (by have := h.ml; omega)), h.ce.stay9 (hc.block _ h.ce.lt (by have := h.gl; have := h.cl; omega) (by have := h.ml; have := h.cl; omega)), h.gl, h.ml, h.cl⟩
theorem len_drop {x : Mx} {t l : List Mx} (h : (l.map Mx.r).Perm ((ofL (x.r.cs.drop 1) x.r.i).toList ++ t.map Mx.r)) : l.length ≤ t.length + 1 := by
  have e := h.length_eq
  rw [List.length_map, List.length_append, List.length_map] at e
  have : (ofL (x.r.cs.drop 1) x.r.i).toList.length ≤ 1 := by cases ofL (x.r.cs.drop 1) x.r.i <;> simp
  omega
/-- drop(1), where the first cell is of c's place. -/
theorem drop_one {B mb g cap C cb : Nat} {c : CT} {x : Mx} {t : List Mx} {w W : World} (h : NxM w W B mb g cap C cb c (x :: t)) (hH : Hp CT.cmp 0 ((x :: t).map Mx.r)) (hO : OkR c ((x :: t).map Mx.r)) (hc : CT.cmp x.r.h c = 0) (hb : t.length ≤ 10000000000000) (hn : cntR ((x :: t).map Mx.r) ≤ 9223372036854775807) :
    Calls Tryd.prog 128 #[.pointer (some ⟨mb, 0, none⟩), .int .i64 1] W fun e w' => e = .returned (.tuple #[]) ∧ ∃ l, l.length ≤ t.length + 1 ∧ cntR (l.map Mx.r) < cntR ((x :: t).map Mx.r) ∧ Hid (NxM w w' B mb g cap C cb c l) ∧ Hid ((popA CT.cmp c (l.map Mx.r)).Perm (popA CT.cmp c ((x :: t).map Mx.r)) ∧ Hp CT.cmp 0 (l.map Mx.r) ∧ OkR c (l.map Mx.r)) := by
  obtain ⟨m, hm⟩ : ∃ m, cntR ((x :: t).map Mx.r) = m + 1 := ⟨cntR ((x :: t).map Mx.r) - 1, by
    have e : cntR ((x :: t).map Mx.r) = x.r.cs.length + cntR (t.map Mx.r) := rfl
    have : x.r.cs.length = x.r.t.length + 1 := rfl
    omega⟩
  have h0 := h.at'
  rw [hm] at h0
  refine (drop_any (k := 1) W h0 hH (by show 1 ≤ x.r.t.length + 1; omega) (by omega) (by omega)).mono ?_
  rintro e w' ⟨rfl, l, h1, h2⟩
  have h3 := next_drop (c := c) (x := x.r) (t := t.map Mx.r) h1.out.1 hO hc
  have h4 : m = cntR (l.map Mx.r) := by
    have e := h3.2.2
    rw [show x.r :: t.map Mx.r = (x :: t).map Mx.r from rfl, hm] at e
    omega
  have h5 := h2.out.1
  rw [h4] at h5
  exact ⟨rfl, l, len_drop h1.out.1, by omega, h.go h5 h2.out.2, h3.1, h1.out.2, h3.2.1⟩

set_option maxRecDepth 100000 in
set_option maxHeartbeats 16000000 in
theorem next_any {B mb g cap C n : Nat} {x : Mx} {t : List Mx} (w : World) (h : MAg w B mb g cap C (x :: t) n) (hH : Hp CT.cmp 0 ((x :: t).map Mx.r)) (hR : ∀ r ∈ (x :: t).map Mx.r, Rise CT.cmp r) (hn : n = cntR ((x :: t).map Mx.r)) (hb : t.length ≤ 10000000000000) (hnb : n ≤ 9223372036854775807) (hC : C ≤ w.heap.size) :
    Calls Tryd.prog 52 #[.pointer (some ⟨mb, 0, none⟩)] w fun e w' => e = .returned (.tuple #[x.r.h.v, .int .i64 (x.r.i : Int), .bool true]) ∧ ∃ l, Hid ((l.map Mx.r).Perm (popA CT.cmp x.r.h ((x :: t).map Mx.r)) ∧ Hp CT.cmp 0 (l.map Mx.r)) ∧ Hid (MAg w' B mb g cap C l (cntR (l.map Mx.r)) ∧ Chy g mb w w') := by
  have mixed : Tryd.prog.follows .mixedOrders = true := by kernel_rfl
  have hi28 : (Tryd.prog.info? 28).map (·.size) = some 8 := by kernel_rfl
  have H0 := hid h
  have HH := hid hH
  have HO := hid (next_start hH hR)
  have HN := hid hn
  obtain ⟨M, hM⟩ : ∃ M, t.length = M := ⟨_, rfl⟩
  have HM := hid hM
  have hMb : M ≤ 10000000000000 := by rw [← hM]; exact hb
  clear h hH hR hn hM hb
  go_enter Tryd.func52, Tryd.ntmps52
  go_upto_region 1 with (fail)
  refine wp_lt9 (fun W => Hid (Below w.heap.size w W ∧ Blk W w.heap.size 28 (default : CT).e.toArray ∧ W.heap.size = w.heap.size + 1)) ⟨below_new w _, Blk.new w _ _, World.size_alloc _ _⟩ ?_
  rintro W0 HW0
  have HM0 := hid (H0.out.below HW0.out.1)
  have s0 : W0.cell? ⟨mb, 0, none⟩ = some (.slice (some ⟨g, 0, none⟩) (M + 1) cap) := by
    have := HM0.out.blk.cell 0
    rw [show (x :: t).length = M + 1 by rw [List.length_cons, HM.out]] at this
    exact this
  have p := HM0.out.row.words 0 (by simp)
  have hcl := HM0.out.cl x (by simp)
  dsimp only [List.getElem_cons_zero] at p
  rw [Nat.zero_mul, Nat.zero_add] at p
  obtain ⟨ux, ⟨c, tx, ix⟩⟩ := x
  dsimp only [Rn.cs] at hcl p
  obtain ⟨b1, o1, c1, rfl, q1, q2, hc1⟩ := cla_words hcl
  obtain ⟨n1, hn1⟩ : ∃ n, tx.length + 1 = n := ⟨_, rfl⟩
  rw [hn1] at p
  have hn10 : 0 < n1 := by omega
  obtain ⟨r0, r1⟩ := p
  obtain ⟨x0, x1, x2, x3, x4, x5, x6, x7⟩ := hc1.words 0 (by simp)
  simp only [Nat.zero_mul, Nat.add_zero, List.getElem_cons_zero] at x0 x1 x2 x3 x4 x5 x6 x7
  have hka : ∀ (O : Obj) (b o : Nat) (v : Value), W0.cell? ⟨b, o, none⟩ = some v → (W0.alloc O).cell? ⟨b, o, none⟩ = some v := fun O b o v e => ((below_new W0 _).cell (p := ⟨b, o, none⟩) (cell_lt e)).trans e
  have s0' := hka (.cells #[.string { data := #[] }, .string { data := #[] }, .string { data := #[] }, .int .i64 0, .int .i64 0, .int .i64 0, .int .i64 0, .string { data := #[] }] 28) _ _ _ s0
  have r0' := hka (.cells #[.string { data := #[] }, .string { data := #[] }, .string { data := #[] }, .int .i64 0, .int .i64 0, .int .i64 0, .int .i64 0, .string { data := #[] }] 28) _ _ _ r0
  have r1' := hka (.cells #[.string { data := #[] }, .string { data := #[] }, .string { data := #[] }, .int .i64 0, .int .i64 0, .int .i64 0, .int .i64 0, .string { data := #[] }] 28) _ _ _ r1
  have s0'' := hka (.cells #[.string c.r, .string c.f, .string c.q, .int .i64 c.t, .int .i64 c.k, .int .i64 c.vk, .int .i64 c.vn, .string c.s] 28) _ _ _ s0
  have r1'' := hka (.cells #[.string c.r, .string c.f, .string c.q, .int .i64 c.t, .int .i64 c.k, .int .i64 c.vk, .int .i64 c.vn, .string c.s] 28) _ _ _ r1
  have x0' := hka (.cells #[.string { data := #[] }, .string { data := #[] }, .string { data := #[] }, .int .i64 0, .int .i64 0, .int .i64 0, .int .i64 0, .string { data := #[] }] 28) _ _ _ x0
  have x1' := hka (.cells #[.string { data := #[] }, .string { data := #[] }, .string { data := #[] }, .int .i64 0, .int .i64 0, .int .i64 0, .int .i64 0, .string { data := #[] }] 28) _ _ _ x1
  have x2' := hka (.cells #[.string { data := #[] }, .string { data := #[] }, .string { data := #[] }, .int .i64 0, .int .i64 0, .int .i64 0, .int .i64 0, .string { data := #[] }] 28) _ _ _ x2
  have x3' := hka (.cells #[.string { data := #[] }, .string { data := #[] }, .string { data := #[] }, .int .i64 0, .int .i64 0, .int .i64 0, .int .i64 0, .string { data := #[] }] 28) _ _ _ x3
  have x4' := hka (.cells #[.string { data := #[] }, .string { data := #[] }, .string { data := #[] }, .int .i64 0, .int .i64 0, .int .i64 0, .int .i64 0, .string { data := #[] }] 28) _ _ _ x4
  have x5' := hka (.cells #[.string { data := #[] }, .string { data := #[] }, .string { data := #[] }, .int .i64 0, .int .i64 0, .int .i64 0, .int .i64 0, .string { data := #[] }] 28) _ _ _ x5
  have x6' := hka (.cells #[.string { data := #[] }, .string { data := #[] }, .string { data := #[] }, .int .i64 0, .int .i64 0, .int .i64 0, .int .i64 0, .string { data := #[] }] 28) _ _ _ x6
  have x7' := hka (.cells #[.string { data := #[] }, .string { data := #[] }, .string { data := #[] }, .int .i64 0, .int .i64 0, .int .i64 0, .int .i64 0, .string { data := #[] }] 28) _ _ _ x7
  clear hcl hc1 hn1 hka
  go_upto_region 3 with (fail)
  go_region
  go_upto_region 4 with (fail)
  have HNx : Hid (NxM w (W0.alloc (.cells #[.string c.r, .string c.f, .string c.q, .int .i64 c.t, .int .i64 c.k, .int .i64 c.vk, .int .i64 c.vn, .string c.s] 28)).drew B mb g cap C W0.heap.size c (⟨.slice (some ⟨b1, o1, none⟩) (tx.length + 1) c1, ⟨c, tx, ix⟩⟩ :: t)) := by
    have k0 := H0.out.row.lt
    have k1 := H0.out.blk.lt
    have hb1 := (below_new W0 (.cells #[.string c.r, .string c.f, .string c.q, .int .i64 c.t, .int .i64 c.k, .int .i64 c.vk, .int .i64 c.vn, .string c.s] 28))
    have k2 := HM0.out.below (hb1.drew)
    have kce : Blk (W0.alloc (.cells #[.string c.r, .string c.f, .string c.q, .int .i64 c.t, .int .i64 c.k, .int .i64 c.vk, .int .i64 c.vn, .string c.s] 28)) W0.heap.size 28 c.e.toArray := Blk.new W0 _ _
    rw [HN.out] at k2
    exact ⟨k2, (Chy.of HW0.out.1).trans (Chy.of hb1.drew), HW0.out.2.1.keep hb1.drew HW0.out.2.1.lt, kce.keep (Below.refl _ _).drew kce.lt, k0, k1, HW0.out.1.size⟩
  obtain ⟨cb, hcb⟩ : ∃ cb, W0.heap.size = cb := ⟨_, rfl⟩
  rw [hcb] at HNx ⊢
  refine wp_lt9 (fun W => Hid (NxM w W B mb g cap C cb c (⟨.slice (some ⟨b1, o1, none⟩) (tx.length + 1) c1, ⟨c, tx, ix⟩⟩ :: t))) HNx ?_
  clear HNx hcb
  rintro W1 HNx
  have HDr := hid (drop_one HNx.out HH.out HO.out (ct_c3.zero c) (by rw [HM.out]; exact hMb) (by rw [← HN.out]; exact hnb))
  have HNb : Hid (cntR ((⟨.slice (some ⟨b1, o1, none⟩) (tx.length + 1) c1, ⟨c, tx, ix⟩⟩ :: t : List Mx).map Mx.r) ≤ 9223372036854775807) := by rw [← HN.out]; exact hnb
  have HG : Hid (∀ (W : World) (l : List Mx), Hid (NxM w W B mb g cap C cb c l) → Hid ((popA CT.cmp c (l.map Mx.r)).Perm (popA CT.cmp c ((⟨.slice (some ⟨b1, o1, none⟩) (tx.length + 1) c1, ⟨c, tx, ix⟩⟩ :: t : List Mx).map Mx.r)) ∧ Hp CT.cmp 0 (l.map Mx.r) ∧ OkR c (l.map Mx.r)) → (∀ x1 t1, l = x1 :: t1 → ¬ CT.cmp x1.r.h c = 0) → ∀ e, e = Ending.returned (.tuple #[c.v, .int .i64 (ix : Int), .bool true]) → e = .returned (.tuple #[c.v, .int .i64 (ix : Int), .bool true]) ∧ ∃ l, Hid ((l.map Mx.r).Perm (popA CT.cmp c ((⟨.slice (some ⟨b1, o1, none⟩) (tx.length + 1) c1, ⟨c, tx, ix⟩⟩ :: t : List Mx).map Mx.r)) ∧ Hp CT.cmp 0 (l.map Mx.r)) ∧ Hid (MAg (W.setRow w.heap.size c.e.toArray) B mb g cap C l (cntR (l.map Mx.r)) ∧ Chy g mb w (W.setRow w.heap.size c.e.toArray))) := fun W l h1 h2 h3 e he => by
    have hnb9 : ∀ k, k ≠ w.heap.size → (W.setRow w.heap.size c.e.toArray).heap[k]? = W.heap[k]? := fun k hk => setRow_ne9 hk
    have hm := h1.out.at'
    have hml := h1.out.ml
    have hgl := h1.out.gl
    have hM2 : MAg (W.setRow w.heap.size c.e.toArray) B mb g cap C l (cntR (l.map Mx.r)) :=
      ⟨hm.lo, hm.lg, hm.ne, hm.blk.stay9 (hnb9 mb (by omega)), hm.row.stay (hnb9 g (by omega)), fun y hy => (hm.cl y hy).stay9 fun b hb _ => hnb9 b (by have := (hm.ap y hy b hb).2.2; omega), hm.ap⟩
    have hC2 : Chy g mb w (W.setRow w.heap.size c.e.toArray) :=
      ⟨h1.out.ch.os, h1.out.ch.tape, h1.out.ch.output, by have := h1.out.ch.size; simpa using this, fun k hk q1 q2 => (hnb9 k (by omega)).trans (h1.out.ch.block k hk q1 q2)⟩
    refine ⟨he, l, ⟨?_, h2.out.2.1⟩, hM2, hC2⟩
    have e : popA CT.cmp c (l.map Mx.r) = l.map Mx.r := by
      cases l with
      | nil => rfl
      | cons x1 t1 => exact next_done h2.out.2.1 h2.out.2.2 (h3 x1 t1 rfl)
    rw [e] at h2
    exact h2.out.1
  go_upto_region 5 with (go_at_call 128; refine HDr.out.mono ?_; rintro e v1 ⟨rfl, l1, hl1, hl2, HA1, HB1⟩)
  clear HDr
  go_loopw [32] (fun _ wr => ∃ l : List Mx, l.length ≤ M + 1 ∧ Hid (cntR (l.map Mx.r) ≤ 9223372036854775807) ∧ Hid (NxM w wr B mb g cap C cb c l) ∧ Hid ((popA CT.cmp c (l.map Mx.r)).Perm (popA CT.cmp c ((⟨.slice (some ⟨b1, o1, none⟩) (tx.length + 1) c1, ⟨c, tx, ix⟩⟩ :: t : List Mx).map Mx.r)) ∧ Hp CT.cmp 0 (l.map Mx.r) ∧ OkR c (l.map Mx.r))) (fun _ wr => leftM mb wr)
  case atStart => exact ⟨l1, by rw [← HM.out]; exact hl1, (by have := HNb.out; unfold Hid; omega), HA1, HB1⟩
  case round =>
    obtain ⟨l, hll, HLn, HLa, HLb⟩ := hrel
    have HFs := hid (first_any HLa.out.at'.at c)
    have c0 : wr.cell? ⟨cb, 0, none⟩ = some (.string c.r) := HLa.out.ce.cell 0; have c1 : wr.cell? ⟨cb, 1, none⟩ = some (.string c.f) := HLa.out.ce.cell 1; have c2 : wr.cell? ⟨cb, 2, none⟩ = some (.string c.q) := HLa.out.ce.cell 2; have c3 : wr.cell? ⟨cb, 3, none⟩ = some (.int .i64 c.t) := HLa.out.ce.cell 3; have c4 : wr.cell? ⟨cb, 4, none⟩ = some (.int .i64 c.k) := HLa.out.ce.cell 4; have c5 : wr.cell? ⟨cb, 5, none⟩ = some (.int .i64 c.vk) := HLa.out.ce.cell 5; have c6 : wr.cell? ⟨cb, 6, none⟩ = some (.int .i64 c.vn) := HLa.out.ce.cell 6; have c7 : wr.cell? ⟨cb, 7, none⟩ = some (.string c.s) := HLa.out.ce.cell 7
    obtain ⟨q, hq⟩ : ∃ q, fstI l c = q := ⟨_, rfl⟩
    rw [hq] at HFs
    by_cases hq0 : q = 0
    · subst hq0
      obtain ⟨x1, t1, rfl⟩ : ∃ x1 t1, l = x1 :: t1 := by
        cases l with
        | nil => cases hq
        | cons a b => exact ⟨a, b, rfl⟩
      have HD2 : Hid (∀ W, Below wr.heap.size wr W → _) := fun W hW => drop_one (HLa.out.below hW) HLb.out.2.1 HLb.out.2.2 hq (by rw [List.length_cons] at hll; omega) HLn.out
      clear hq
      go_wp2_with (first
        | (go_at_call 129; refine HFs.out.mono ?_; rintro e v2 ⟨rfl, hb2⟩; clear c0 c1 c2 c3 c4 c5 c6 c7)
        | (go_at_call 128; refine (HD2.out v2 hb2).mono ?_; rintro e v3 ⟨rfl, l3, hl3, hl4, HA3, HB3⟩))
      go_roundw
      case rel => exact ⟨l3, by rw [List.length_cons] at hll; omega, (by have := HLn.out; unfold Hid; omega), HA3, HB3.out.1.trans HLb.out.1, HB3.out.2⟩
      case measure => rw [leftM_is HA3.out.at', leftM_is HLa.out.at']; exact hl4
    · have h3 : ∀ x1 t1, l = x1 :: t1 → ¬ CT.cmp x1.r.h c = 0 := fun x1 t1 e z => hq0 (by rw [← hq, e]; exact z)
      have HEnd : Hid (∀ W, Below wr.heap.size wr W → _) := fun W hW => HG.out W l (HLa.out.below hW) HLb h3
      have HRs : Hid (∀ W, Below wr.heap.size wr W → Blk W w.heap.size 28 (default : CT).e.toArray ∧ Blk W cb 28 c.e.toArray) := fun W hW => ⟨(HLa.out.below hW).rs, (HLa.out.below hW).ce⟩
      have hqb : (q == 0) = false := beq_eq_false_iff_ne.2 hq0
      have hone0 : c.e.toArray.all (·.oneCell') = true := by rw [Array.all_eq_true_iff_forall_mem]; intro u hu; exact c.e_one u (by simpa using hu)
      clear h3 hq
      go_upto_region 7 with (go_at_call 129; refine HFs.out.mono ?_; rintro e v2 ⟨rfl, hb2⟩)
      clear c0 c1 c2 c3 c4 c5 c6 c7
      have HR2 := hid (HRs.out v2 hb2)
      have c0 : v2.cell? ⟨cb, 0, none⟩ = some (.string c.r) := HR2.out.2.cell 0; have c1 : v2.cell? ⟨cb, 1, none⟩ = some (.string c.f) := HR2.out.2.cell 1; have c2 : v2.cell? ⟨cb, 2, none⟩ = some (.string c.q) := HR2.out.2.cell 2; have c3 : v2.cell? ⟨cb, 3, none⟩ = some (.int .i64 c.t) := HR2.out.2.cell 3; have c4 : v2.cell? ⟨cb, 4, none⟩ = some (.int .i64 c.k) := HR2.out.2.cell 4; have c5 : v2.cell? ⟨cb, 5, none⟩ = some (.int .i64 c.vk) := HR2.out.2.cell 5; have c6 : v2.cell? ⟨cb, 6, none⟩ = some (.int .i64 c.vn) := HR2.out.2.cell 6; have c7 : v2.cell? ⟨cb, 7, none⟩ = some (.string c.s) := HR2.out.2.cell 7
      go_wp2_with (refine wpList_store_row rfl 28 (.tmp 2) (.tmp 38) rfl w.heap.size c.e.toArray rfl rfl 28 (default : CT).e.toArray HR2.out.1 hi28 rfl hone0 ?_)
      refine bodyPost_ret (v := .tuple #[c.v, .int .i64 (ix : Int), .bool true]) (results_cell_two_row rfl _ _ w.heap.size 28 c.e.toArray _ rfl (setRow_heap _ _ (default : CT).e.toArray _ _ (0, 0) HR2.out.1) Tryd.underlying28 rfl hi28 _ _ rfl rfl) rfl ?_
      exact HEnd.out v2 hb2 _ rfl
end Go.Proofs.YtgfkobfkncpmoaaDoor
