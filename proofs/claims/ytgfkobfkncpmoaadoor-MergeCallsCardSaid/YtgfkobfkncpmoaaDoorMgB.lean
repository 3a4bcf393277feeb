/- A merger in memory; ahead, first, Left. Conditions: the merger stands. -/
import Derived.Test.YtgfkobfkncpmoaaDoorMgA
import Derived.Test.YtgfkobfkncpmoaaDoorP7
import Derived.Deep.RegionWith
import Derived.Deep.RegionHeld3
import Derived.RegionTactic
namespace Go.Proofs.YtgfkobfkncpmoaaDoor
open Go.RowKit

theorem ordc9 (x y : CT) (w : World) : Calls Tryd.prog 78 #[x.v, y.v] w fun e w' => e = .returned (.int .i64 (CT.cmp x y)) ∧ Below w.heap.size w w' :=
  corder_any x.r x.f x.q x.s x.t x.k x.vk x.vn y.r y.f y.q y.s y.t y.k y.vk y.vn w
/-- A run in memory: the slice of its cells, and which one it is. -/
structure Mx where
  u : Value
  r : Rn CT
def Rn.cs (r : Rn CT) : List CT := r.h :: r.t
def encX (x : Mx) : List Value := [x.u, .int .i64 (x.r.i : Int)]
def flatX (l : List Mx) : List Value := l.flatMap encX
theorem flatX_len (l : List Mx) : (flatX l).length = l.length * 2 := by
  unfold flatX
  induction l with
  | nil => rfl
  | cons a t ih => rw [List.flatMap_cons, List.length_append, ih, List.length_cons]; show 2 + _ = _; omega
theorem flatX_app (l m : List Mx) : flatX (l ++ m) = flatX l ++ flatX m := by unfold flatX; simp
theorem flatX_at : ∀ (l : List Mx) (i c : Nat) (hi : i < l.length), c < 2 → (flatX l)[i * 2 + c]? = (encX l[i])[c]?
  | a :: t, 0, c, _, hc => by
    show (encX a ++ flatX t)[0 * 2 + c]? = _
    rw [List.getElem?_append_left (by show _ < 2; omega)]
    simp
  | a :: t, i + 1, c, hi, hc => by
    show (encX a ++ flatX t)[(i + 1) * 2 + c]? = _
    rw [List.getElem?_append_right (by show 2 ≤ _; omega), show (i + 1) * 2 + c - (encX a).length = i * 2 + c by show _ - 2 = _; omega]
    exact flatX_at t i c (by simpa using hi) hc
abbrev XRow (w : World) (B : Nat) (v : Value) (l : List Mx) : Prop := w.ownsRow B 145 2 v l.length (flatX l)
/-- A merger: its block, its row of runs, their cells, how many are left. -/
structure MAt (w : World) (B mb : Nat) (v : Value) (l : List Mx) (n : Nat) : Prop where
  lo : B ≤ mb
  blk : Blk w mb 143 #[v, .int .i64 (n : Int)]
  row : XRow w B v l
  cl : ∀ x ∈ l, ClA w x.u x.r.cs
  ap : ∀ x ∈ l, ∀ g, x.u.ownBlock = some g → g ≠ mb ∧ v.ownBlock ≠ some g
theorem MAt.below {w w1 : World} {B mb n : Nat} {v : Value} {l : List Mx} (h : MAt w B mb v l n) (hb : Below w.heap.size w w1) : MAt w1 B mb v l n :=
  ⟨h.lo, h.blk.keep hb h.blk.lt, World.ownsRow.kept h.row ⟨hb.os, hb.tape, hb.output, hb.size, fun k hk _ => hb.block k hk⟩ (row := Option.none) (by cases hv : v.ownBlock with
    | none => exact .inl rfl
    | some g => exact .inr (by simp)), fun x hx => (h.cl x hx).below hb, h.ap⟩
theorem xrow_form {w : World} {B : Nat} {v : Value} {l : List Mx} (h : XRow w B v l) {n : Nat} (hn : l.length = n) : ∃ A c, v = .slice A n c := by
  rcases h.2 with ⟨e, e0⟩ | ⟨g, cap, cur, e, _⟩
  · exact ⟨none, 0, by rw [e, ← hn, e0]⟩
  · exact ⟨_, cap, by rw [e, hn]⟩
theorem cla_words {w : World} {v : Value} {c : CT} {t : List CT} (h : ClA w v (c :: t)) : ∃ b off cap, v = .slice (some ⟨b, off, none⟩) (t.length + 1) cap ∧ t.length + 1 ≤ cap ∧ cap ≤ 9223372036854775807 ∧ HC w b off (c :: t) := by
  obtain ⟨A, cap, e, h1, h2, h3⟩ := h
  obtain ⟨b, off, rfl, hh⟩ := h3 (by simp)
  exact ⟨b, off, cap, e, h1, h2, hh⟩

set_option maxRecDepth 100000 in
set_option maxHeartbeats 8000000 in
theorem ahead_any (x y : Mx) (w : World) (hx : ClA w x.u x.r.cs) (hy : ClA w y.u y.r.cs) :
    Calls Tryd.prog 206 #[.agg #[x.u, .int .i64 (x.r.i : Int)], .agg #[y.u, .int .i64 (y.r.i : Int)]] w fun e w' => e = .returned (.bool (bfr CT.cmp x.r y.r)) ∧ Below w.heap.size w w' := by
  have mixed : Tryd.prog.follows .mixedOrders = true := by kernel_rfl
  have HBf : Hid (bfr CT.cmp x.r y.r = (decide (CT.cmp x.r.h y.r.h < 0) || (decide (CT.cmp x.r.h y.r.h = 0) && decide (x.r.i < y.r.i)))) := rfl
  obtain ⟨u1, ⟨h1, t1, i1⟩⟩ := x
  obtain ⟨u2, ⟨h2, t2, i2⟩⟩ := y
  dsimp only [Rn.cs] at HBf hx hy ⊢
  obtain ⟨b1, o1, c1, rfl, q1, q2, hc1⟩ := cla_words hx
  obtain ⟨b2, o2, c2, rfl, q3, q4, hc2⟩ := cla_words hy
  obtain ⟨n1, hn1⟩ : ∃ n, t1.length + 1 = n := ⟨_, rfl⟩
  obtain ⟨n2, hn2⟩ : ∃ n, t2.length + 1 = n := ⟨_, rfl⟩
  rw [hn1] at q1 ⊢
  rw [hn2] at q3 ⊢
  have hn10 : 0 < n1 := by omega
  have hn20 : 0 < n2 := by omega
  obtain ⟨o, ho⟩ : ∃ o, CT.cmp h1 h2 = o := ⟨_, rfl⟩
  rw [ho] at HBf
  have HO : Hid (∀ W, Calls Tryd.prog 78 #[h1.v, h2.v] W fun e w' => e = .returned (.int .i64 o) ∧ Below W.heap.size W w') := fun W => by rw [← ho]; exact ordc9 h1 h2 W
  go_enter Tryd.func206, Tryd.ntmps206
  go_upto_region 1 with (fail)
  have hb0 : Below w.heap.size w ((w.alloc (.cells #[.slice (some ⟨b1, o1, none⟩) n1 c1, .int .i64 (i1 : Int)] 145)).alloc (.cells #[.slice (some ⟨b2, o2, none⟩) n2 c2, .int .i64 (i2 : Int)] 145)) := (below_new w _).trans ((below_new _ _).mono (by simp))
  have k1 := (Blk.new w 145 #[.slice (some ⟨b1, o1, none⟩) n1 c1, .int .i64 (i1 : Int)]).keep (below_new (w.alloc (.cells #[.slice (some ⟨b1, o1, none⟩) n1 c1, .int .i64 (i1 : Int)] 145)) (.cells #[.slice (some ⟨b2, o2, none⟩) n2 c2, .int .i64 (i2 : Int)] 145)) (by simp)
  have k2 := Blk.new (w.alloc (.cells #[.slice (some ⟨b1, o1, none⟩) n1 c1, .int .i64 (i1 : Int)] 145)) 145 #[.slice (some ⟨b2, o2, none⟩) n2 c2, .int .i64 (i2 : Int)]
  rw [World.size_alloc] at k2
  have d1 := hc1.below hb0 (hc1.lt (by simp))
  have d2 := hc2.below hb0 (hc2.lt (by simp))
  obtain ⟨W, hW⟩ : ∃ W, ((w.alloc (.cells #[.slice (some ⟨b1, o1, none⟩) n1 c1, .int .i64 (i1 : Int)] 145)).alloc (.cells #[.slice (some ⟨b2, o2, none⟩) n2 c2, .int .i64 (i2 : Int)] 145)) = W := ⟨_, rfl⟩
  rw [hW] at hb0 k1 k2 d1 d2 ⊢
  obtain ⟨x0, x1, x2, x3, x4, x5, x6, x7⟩ := d1.words 0 (by simp)
  obtain ⟨y0, y1, y2, y3, y4, y5, y6, y7⟩ := d2.words 0 (by simp)
  have z0 : W.cell? ⟨w.heap.size, 0, none⟩ = some (.slice (some ⟨b1, o1, none⟩) n1 c1) := k1.cell 0
  have z1 : W.cell? ⟨w.heap.size, 1, none⟩ = some (.int .i64 (i1 : Int)) := k1.cell 1
  have v0 : W.cell? ⟨w.heap.size + 1, 0, none⟩ = some (.slice (some ⟨b2, o2, none⟩) n2 c2) := k2.cell 0
  have v1 : W.cell? ⟨w.heap.size + 1, 1, none⟩ = some (.int .i64 (i2 : Int)) := k2.cell 1
  simp only [Nat.zero_mul, Nat.add_zero, List.getElem_cons_zero] at x0 x1 x2 x3 x4 x5 x6 x7 y0 y1 y2 y3 y4 y5 y6 y7
  have HB := hid hb0
  have HK := hid (And.intro k1 k2)
  clear hW d1 d2 k1 k2 hb0 hx hy hc1 hc2 hn1 hn2 ho
  go_region_with (go_simp; go_at_call 78; refine (HO.out _).mono ?_; rintro e w5 ⟨rfl, hb5⟩)
  all_goals (
    have hb6 : Below W.heap.size W w5 := (Below.refl _ W).drew.trans hb5
    have HB6 := hid (HB.out.trans (hb6.mono HB.out.size))
    have e1 : w5.cell? ⟨w.heap.size, 1, none⟩ = some (.int .i64 (i1 : Int)) := (HK.out.1.keep hb6 HK.out.1.lt).cell 1
    have e2 : w5.cell? ⟨w.heap.size + 1, 1, none⟩ = some (.int .i64 (i2 : Int)) := (HK.out.2.keep hb6 HK.out.2.lt).cell 1
    clear x0 x1 x2 x3 x4 x5 x6 x7 y0 y1 y2 y3 y4 y5 y6 y7 z0 z1 v0 v1 hb5 hb6 HO
    by_cases ho1 : o < 0
    · go_wp2
      go_ret
      exact ⟨by rw [HBf.out, decide_eq_true ho1, Bool.true_or]; rfl, HB6.out⟩
    · by_cases ho2 : o = 0
      · subst ho2
        go_wp2
        go_ret
        refine ⟨?_, HB6.out⟩
        rw [HBf.out]
        simp
      · have ho3 : (o == 0) = false := beq_eq_false_iff_ne.2 ho2
        go_wp2
        go_ret
        refine ⟨?_, HB6.out⟩
        rw [HBf.out, decide_eq_false (show ¬ o < 0 by omega), decide_eq_false ho2]
        rfl)

set_option maxHeartbeats 1000000 in
theorem left_any {w : World} {B mb n : Nat} {v : Value} {l : List Mx} (h : MAt w B mb v l n) :
    Calls Tryd.prog 54 #[.pointer (some ⟨mb, 0, none⟩)] w fun e w' => e = .returned (.int .i64 (n : Int)) ∧ w' = w := by
  have m1 : w.cell? ⟨mb, 1, none⟩ = some (.int .i64 (n : Int)) := h.blk.cell 1
  clear h
  go_enter Tryd.func54, Tryd.ntmps54
  go_wp2
  go_ret
  exact ⟨rfl, rfl⟩

/-- What first answers. -/
def fstI (l : List Mx) (c : CT) : Int := match l with
  | [] => 1
  | x :: _ => CT.cmp x.r.h c
theorem own_cellsG {w : World} {B sz n g cap : Nat} {T : TypeId} {xs : List Value} (h : w.ownsRow B T sz (.slice (some ⟨g, 0, none⟩) n cap) n xs) {j : Nat} {x : Value} (hj : xs[j]? = some x) : w.cell? ⟨g, j, none⟩ = some x ∧ w.frozen? ⟨g, j, none⟩ = false := by
  rcases h.2 with ⟨e, _⟩ | ⟨g', cap', cur, e, h1, h2, h3, h4, h5, h6⟩
  · cases e
  · injection e with e1 e2 e3
    injection e1 with e1
    injection e1 with e1
    subst e1 e3
    have hb : Blk w g T cur := h2
    refine ⟨?_, hb.free j⟩
    rw [hb.cell j]
    rw [← h6] at hj
    have hlt : j < n * sz := by
      rcases Nat.lt_or_ge j (n * sz) with q | q
      · exact q
      · rw [List.getElem?_take_eq_none q] at hj; cases hj
    rw [List.getElem?_take_of_lt hlt] at hj
    rw [← hj, Array.getElem?_toList]
theorem xrow_at {w : World} {B n c : Nat} {A : Option Addr} {l : List Mx} (h : XRow w B (.slice A n c) l) {i : Nat} (hi : i < l.length) : ∃ g, A = some ⟨g, 0, none⟩ ∧ n = l.length ∧ n ≤ c ∧ w.cell? ⟨g, i * 2, none⟩ = some l[i].u ∧ w.cell? ⟨g, i * 2 + 1, none⟩ = some (.int .i64 (l[i].r.i : Int)) ∧ ∀ j, j < 2 → w.frozen? ⟨g, i * 2 + j, none⟩ = false := by
  have hn : n = l.length := by
    rcases h.2 with ⟨e, e2⟩ | ⟨g, cap, _, e, _⟩
    · injection e with _ e3 _
      omega
    · injection e
  subst hn
  rcases h.2 with ⟨e, e2⟩ | ⟨g, cap, cur, e, _, _, h1, _⟩
  · omega
  · injection e with e1 e2 e3
    subst e1 e3
    have k0 := own_cellsG h (j := i * 2) (x := l[i].u) (by have := flatX_at l i 0 hi (by omega); exact this)
    have k1 := own_cellsG h (j := i * 2 + 1) (x := .int .i64 (l[i].r.i : Int)) (by have := flatX_at l i 1 hi (by omega); exact this)
    refine ⟨g, rfl, rfl, h1, k0.1, k1.1, fun j hj => ?_⟩
    match j, hj with
    | 0, _ => exact k0.2
    | 1, _ => exact k1.2

set_option maxRecDepth 100000 in
set_option maxHeartbeats 8000000 in
theorem first_any {w : World} {B mb n : Nat} {v : Value} {l : List Mx} (h : MAt w B mb v l n) (c : CT) :
    Calls Tryd.prog 129 #[.pointer (some ⟨mb, 0, none⟩), c.v] w fun e w' => e = .returned (.int .i64 (fstI l c)) ∧ Below w.heap.size w w' := by
  have mixed : Tryd.prog.follows .mixedOrders = true := by kernel_rfl
  obtain ⟨A, cv, rfl⟩ := xrow_form h.row rfl
  have m0 : w.cell? ⟨mb, 0, none⟩ = some (.slice A l.length cv) := h.blk.cell 0
  have hmb := h.blk.lt
  match l, h with
  | [], h =>
    clear h
    have k0 := (below_new w (.cells #[.string c.r, .string c.f, .string c.q, .int .i64 c.t, .int .i64 c.k, .int .i64 c.vk, .int .i64 c.vn, .string c.s] 28)).cell (p := ⟨mb, 0, none⟩) hmb
    rw [m0] at k0
    go_enter Tryd.func129, Tryd.ntmps129
    go_wp2
    go_ret
    exact ⟨rfl, below_new _ _⟩
  | x :: t, h =>
    obtain ⟨g, rfl, _, hcv, r0, _, _⟩ := xrow_at h.row (i := 0) (by simp)
    obtain ⟨u, ⟨c1, t1, i1⟩⟩ := x
    have hcl := h.cl ⟨u, ⟨c1, t1, i1⟩⟩ (by simp)
    dsimp only [Rn.cs, List.getElem_cons_zero] at hcl r0
    obtain ⟨b1, o1, cap, rfl, q1, q2, hc1⟩ := cla_words hcl
    obtain ⟨n1, hn1⟩ : ∃ n, t1.length + 1 = n := ⟨_, rfl⟩
    rw [hn1] at q1 r0
    obtain ⟨nl, hnl⟩ : ∃ n, (⟨.slice (some ⟨b1, o1, none⟩) n1 cap, ⟨c1, t1, i1⟩⟩ :: t : List Mx).length = n := ⟨_, rfl⟩
    have hn10 : 0 < n1 := by omega
    have hnl0 : 0 < nl := by rw [← hnl]; simp
    have hnlb : ¬ ((nl : Int) = 0) := by omega
    rw [show (⟨.slice (some ⟨b1, o1, none⟩) (t1.length + 1) cap, ⟨c1, t1, i1⟩⟩ :: t : List Mx).length = nl by rw [hn1]; exact hnl] at m0 hcv
    obtain ⟨o, ho⟩ : ∃ o, CT.cmp c1 c = o := ⟨_, rfl⟩
    have HO : Hid (∀ W, Calls Tryd.prog 78 #[c1.v, c.v] W fun e w' => e = .returned (.int .i64 o) ∧ Below W.heap.size W w') := fun W => by rw [← ho]; exact ordc9 c1 c W
    have HE : Hid (∀ (e : Ending) (w' : World), e = .returned (.int .i64 o) → Below w.heap.size w w' → e = .returned (.int .i64 (fstI (⟨.slice (some ⟨b1, o1, none⟩) (t1.length + 1) cap, ⟨c1, t1, i1⟩⟩ :: t) c)) ∧ Below w.heap.size w w') := fun e w' h1 h2 => ⟨by rw [h1, ← ho]; rfl, h2⟩
    have hb0 := below_new w (.cells #[.string c.r, .string c.f, .string c.q, .int .i64 c.t, .int .i64 c.k, .int .i64 c.vk, .int .i64 c.vn, .string c.s] 28)
    have k1 := Blk.new w 28 #[.string c.r, .string c.f, .string c.q, .int .i64 c.t, .int .i64 c.k, .int .i64 c.vk, .int .i64 c.vn, .string c.s]
    have d1 := hc1.below hb0 (hc1.lt (by simp))
    have s0 := (hb0.cell (p := ⟨mb, 0, none⟩) hmb).trans m0
    have s1 := (hb0.cell (p := ⟨g, 0, none⟩) (cell_lt r0)).trans r0
    obtain ⟨W, hW⟩ : ∃ W, w.alloc (.cells #[.string c.r, .string c.f, .string c.q, .int .i64 c.t, .int .i64 c.k, .int .i64 c.vk, .int .i64 c.vn, .string c.s] 28) = W := ⟨_, rfl⟩
    have HW := hid hW
    rw [hW] at hb0 k1 d1 s0 s1
    obtain ⟨x0, x1, x2, x3, x4, x5, x6, x7⟩ := d1.words 0 (by simp)
    simp only [Nat.zero_mul, Nat.add_zero, List.getElem_cons_zero] at x0 x1 x2 x3 x4 x5 x6 x7
    have y0 : W.cell? ⟨w.heap.size, 0, none⟩ = some (.string c.r) := k1.cell 0
    have y1 : W.cell? ⟨w.heap.size, 1, none⟩ = some (.string c.f) := k1.cell 1
    have y2 : W.cell? ⟨w.heap.size, 2, none⟩ = some (.string c.q) := k1.cell 2
    have y3 : W.cell? ⟨w.heap.size, 3, none⟩ = some (.int .i64 c.t) := k1.cell 3
    have y4 : W.cell? ⟨w.heap.size, 4, none⟩ = some (.int .i64 c.k) := k1.cell 4
    have y5 : W.cell? ⟨w.heap.size, 5, none⟩ = some (.int .i64 c.vk) := k1.cell 5
    have y6 : W.cell? ⟨w.heap.size, 6, none⟩ = some (.int .i64 c.vn) := k1.cell 6
    have y7 : W.cell? ⟨w.heap.size, 7, none⟩ = some (.string c.s) := k1.cell 7
    have HB := hid hb0
    clear hW d1 k1 hb0 hcl hc1 hn1 ho h hnl m0 r0
    go_enter Tryd.func129, Tryd.ntmps129
    go_upto_region 1 with (fail)
    rw [HW.out]
    go_upto_region 3 with (fail)
    go_region_with (go_simp; go_at_call 78; refine (HO.out _).mono ?_; rintro e w5 ⟨rfl, hb5⟩)
    all_goals (
      go_wp2
      go_ret
      exact HE.out _ _ rfl (HB.out.trans (((Below.refl _ W).drew.trans hb5).mono HB.out.size)))
end Go.Proofs.YtgfkobfkncpmoaaDoor
