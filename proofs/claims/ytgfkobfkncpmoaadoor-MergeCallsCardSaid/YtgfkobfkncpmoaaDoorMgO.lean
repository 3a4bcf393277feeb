/- Skip: what is ahead of a cell is passed over. Conditions: the merger stands, its runs rise. -/
import Derived.Test.YtgfkobfkncpmoaaDoorMgK
import Derived.Test.YtgfkobfkncpmoaaDoorMgL
namespace Go.Proofs.YtgfkobfkncpmoaaDoor
open Go.RowKit

/-- Where Skip is. -/
structure SkM (w W : World) (B mb g cap C cb : Nat) (c : CT) (l : List Mx) : Prop where
  at' : MAg W B mb g cap C l (cntR (l.map Mx.r))
  ch : Chy g mb w W
  ce : Blk W cb 28 c.e.toArray
  gl : g < w.heap.size
  ml : mb < w.heap.size
  cl : w.heap.size ≤ cb
theorem SkM.below {w W W2 : World} {B mb g cap C cb : Nat} {c : CT} {l : List Mx} (h : SkM w W B mb g cap C cb c l) (hb : Below W.heap.size W W2) : SkM w W2 B mb g cap C cb c l :=
  ⟨h.at'.below hb, h.ch.trans (Chy.of hb), h.ce.keep hb h.ce.lt, h.gl, h.ml, h.cl⟩
theorem SkM.go {w W W2 : World} {B mb g cap C cb : Nat} {c : CT} {l l2 : List Mx} (h : SkM w W B mb g cap C cb c l) (h2 : MAg W2 B mb g cap C l2 (cntR (l2.map Mx.r))) (hc : Chy g mb W W2) : SkM w W2 B mb g cap C cb c l2 :=
  ⟨h2, h.ch.trans hc, h.ce.stay9 (hc.block _ h.ce.lt (by have := h.gl; have := h.cl; omega) (by have := h.ml; have := h.cl; omega)), h.gl, h.ml, h.cl⟩
/-- What passes over the first run's cells ahead of c. -/
theorem drop_is {c : CT} : ∀ (l : List CT) (m : Nat), m ≤ l.length → (∀ k x, l[k]? = some x → (k < m ↔ CT.cmp x c < 0)) → l.drop m = l.dropWhile fun x => decide (CT.cmp x c < 0)
  | [], m, _, _ => by simp
  | x :: t, 0, _, h => by
    have h0 := (h 0 x rfl)
    rw [List.dropWhile_cons, if_neg (by rw [decide_eq_true_iff]; intro e; have := h0.2 e; omega)]
    rfl
  | x :: t, m + 1, hm, h => by
    have h0 := (h 0 x rfl).1 (by omega)
    rw [List.dropWhile_cons, if_pos (by simpa using h0), List.drop_succ_cons]
    exact drop_is t m (by simpa using hm) fun k y hy => by
      have := h (k + 1) y hy
      omega
theorem skip_step {c : CT} {x : Rn CT} {t l : List (Rn CT)} {m : Nat} (hm : m ≤ x.cs.length) (hk : ∀ (k : Nat) (y : CT), x.cs[k]? = some y → (k < m ↔ CT.cmp y c < 0)) (hp : l.Perm ((ofL (x.cs.drop m) x.i).toList ++ t)) (hR : ∀ r ∈ x :: t, Rise CT.cmp r) :
    (skA CT.cmp c l).Perm (skA CT.cmp c (x :: t)) ∧ (∀ r ∈ l, Rise CT.cmp r) ∧ cntR (x :: t) = cntR l + m := by
  have e : ofL (x.cs.drop m) x.i = skR CT.cmp c x := by
    unfold skR
    rw [drop_is _ _ hm hk]
    rfl
  refine ⟨?_, fun r hr => ?_, ?_⟩
  · rw [sk_once]
    rw [e] at hp
    exact sk_perm hp
  · rcases List.mem_append.1 (hp.mem_iff.1 hr) with h | h
    · rw [Option.mem_toList, of_mem] at h
      have h1 := hR x (List.mem_cons_self ..)
      unfold Rise at h1 ⊢
      rw [← h.1]
      exact h1.sublist (List.drop_sublist _ _)
    · exact hR r (List.mem_cons_of_mem _ h)
  · rw [cntR_perm hp, cntR_app, cntR_cons]
    have e2 : cntR (ofL (x.cs.drop m) x.i).toList = x.cs.length - m := by
      cases hd : x.cs.drop m with
      | nil =>
        have := congrArg List.length hd
        rw [List.length_drop, List.length_nil] at this
        show 0 = _
        omega
      | cons a u =>
        have := congrArg List.length hd
        rw [List.length_drop, List.length_cons] at this
        show (u.length + 1) + 0 = _
        omega
    omega
theorem len_drop2 {x : Rn CT} {t : List Mx} {l : List Mx} {m : Nat} (h : (l.map Mx.r).Perm ((ofL (x.cs.drop m) x.i).toList ++ t.map Mx.r)) : l.length ≤ t.length + 1 := by
  have e := h.length_eq
  rw [List.length_map, List.length_append, List.length_map] at e
  have : (ofL (x.cs.drop m) x.i).toList.length ≤ 1 := by cases ofL (x.cs.drop m) x.i <;> simp
  omega
theorem skip_done {x : Rn CT} {t : List (Rn CT)} {c : CT} (hH : Hp CT.cmp 0 (x :: t)) (hc : ¬ CT.cmp x.h c < 0) : skA CT.cmp c (x :: t) = x :: t :=
  sk_done fun r h e => by
    have h1 := hp_least ct_c3 hH r h
    have h4 : CT.cmp x.h r.h ≤ 0 := by unfold leR at h1; omega
    exact hc (ct_c3.le_lt h4 e)
/-- drop in Skip's loop. -/
theorem drop_skip {B mb g cap C cb m : Nat} {c : CT} {x : Mx} {t : List Mx} {w W : World} (h : SkM w W B mb g cap C cb c (x :: t)) (hH : Hp CT.cmp 0 ((x :: t).map Mx.r)) (hR : ∀ r ∈ (x :: t).map Mx.r, Rise CT.cmp r) (hm : m ≤ x.r.cs.length) (hm0 : 0 < m) (hk : ∀ (k : Nat) (y : CT), x.r.cs[k]? = some y → (k < m ↔ CT.cmp y c < 0)) (hb : t.length ≤ 100000000000000) (hn : cntR ((x :: t).map Mx.r) ≤ 9223372036854775807) :
    Calls Tryd.prog 128 #[.pointer (some ⟨mb, 0, none⟩), .int .i64 (m : Int)] W fun e w' => e = .returned (.tuple #[]) ∧ ∃ l, l.length ≤ t.length + 1 ∧ cntR (l.map Mx.r) < cntR ((x :: t).map Mx.r) ∧ Hid (SkM w w' B mb g cap C cb c l) ∧ Hid ((skA CT.cmp c (l.map Mx.r)).Perm (skA CT.cmp c ((x :: t).map Mx.r)) ∧ Hp CT.cmp 0 (l.map Mx.r) ∧ ∀ r ∈ l.map Mx.r, Rise CT.cmp r) := by
  obtain ⟨n, hn2⟩ : ∃ n, cntR ((x :: t).map Mx.r) = n + m := ⟨cntR ((x :: t).map Mx.r) - m, by
    have e : cntR ((x :: t).map Mx.r) = x.r.cs.length + cntR (t.map Mx.r) := rfl
    omega⟩
  have h0 := h.at'
  rw [hn2] at h0 hn
  refine (drop_any W h0 hH hm hb hn).mono ?_
  rintro e w' ⟨rfl, l, h1, h2⟩
  obtain ⟨p1, p2⟩ := h1.out
  obtain ⟨g1, g2, g3⟩ := skip_step hm hk p1 hR
  have e9 : cntR (l.map Mx.r) = n := by
    have : cntR ((x :: t).map Mx.r) = cntR (l.map Mx.r) + m := g3
    omega
  refine ⟨rfl, l, len_drop2 p1, by omega, h.go (by rw [e9]; exact h2.out.1) h2.out.2, g1, p2, g2⟩
/-- BinarySearchFunc of the first run, as Skip calls it. -/
theorem bs_skip {w W : World} {B mb g cap C cb : Nat} {c : CT} {x : Mx} {t : List Mx} (h : SkM w W B mb g cap C cb c (x :: t)) (hR : Rise CT.cmp x.r) (hl : x.r.t.length ≤ 1000000000000000) (hc : CT.cmp x.r.h c < 0) :
    Calls Tryd.prog 130 #[x.u, c.v, .func (.func 78) #[] #[]] W fun e w' => ∃ (m : Nat) (b : Bool), e = .returned (.tuple #[.int .i64 (m : Int), .bool b]) ∧ Hid (0 < m ∧ m ≤ x.r.cs.length ∧ ∀ (k : Nat) (y : CT), x.r.cs[k]? = some y → (k < m ↔ CT.cmp y c < 0)) ∧ Hid (Below W.heap.size W w') := by
  refine (bsearch_any c W (h.at'.cl x (List.mem_cons_self ..)) hR hl).mono ?_
  rintro e w' ⟨m, b, rfl, h1, h2, h3⟩
  exact ⟨m, b, rfl, ⟨(h2 0 x.r.h rfl).2 hc, h1, h2⟩, h3⟩
theorem cntR_ge {x : Rn CT} {t : List (Rn CT)} : x.t.length ≤ cntR (x :: t) := by
  rw [cntR_cons]
  show _ ≤ (x.t.length + 1) + _
  omega

set_option maxRecDepth 100000 in
set_option maxHeartbeats 16000000 in
theorem skip_any {B mb g cap C n : Nat} {l0 : List Mx} (c : CT) (w : World) (h : MAg w B mb g cap C l0 n) (hH : Hp CT.cmp 0 (l0.map Mx.r)) (hR : ∀ r ∈ l0.map Mx.r, Rise CT.cmp r) (hn : n = cntR (l0.map Mx.r)) (hb : l0.length ≤ 10000000000000) (hnb : n ≤ 1000000000000) :
    Calls Tryd.prog 56 #[.pointer (some ⟨mb, 0, none⟩), c.v] w fun e w' => e = .returned (.tuple #[]) ∧ ∃ l, Hid ((l.map Mx.r).Perm (skA CT.cmp c (l0.map Mx.r)) ∧ Hp CT.cmp 0 (l.map Mx.r)) ∧ Hid (MAg w' B mb g cap C l (cntR (l.map Mx.r)) ∧ Chy g mb w w') := by
  have mixed : Tryd.prog.follows .mixedOrders = true := by kernel_rfl
  have H0 := hid h
  have HS0 : Hid (SkM w (w.alloc (.cells #[.string c.r, .string c.f, .string c.q, .int .i64 c.t, .int .i64 c.k, .int .i64 c.vk, .int .i64 c.vn, .string c.s] 28)) B mb g cap C w.heap.size c l0) := by
    have hb1 := below_new w (.cells #[.string c.r, .string c.f, .string c.q, .int .i64 c.t, .int .i64 c.k, .int .i64 c.vk, .int .i64 c.vn, .string c.s] 28)
    have h1 := h.below hb1
    rw [hn] at h1
    exact ⟨h1, Chy.of hb1, Blk.new w _ _, h.row.lt, h.blk.lt, Nat.le_refl _⟩
  have HA : Hid (cntR (l0.map Mx.r) ≤ 1000000000000) := by rw [← hn]; exact hnb
  have HH := hid (And.intro hH hR)
  obtain ⟨M, hM⟩ : ∃ M, l0.length = M := ⟨_, rfl⟩
  have HM := hid hM
  rw [hM] at hb
  clear h hH hR hn hnb hM
  go_enter Tryd.func56, Tryd.ntmps56
  go_upto_region 1 with (fail)
  obtain ⟨cb, hcb⟩ : ∃ cb, w.heap.size = cb := ⟨_, rfl⟩
  rw [hcb] at HS0 ⊢
  refine wp_lt9 (fun W => Hid (SkM w W B mb g cap C cb c l0)) HS0 ?_
  clear HS0 hcb
  rintro W0 HS0
  go_loopw [4] (fun _ wr => ∃ l : List Mx, l.length ≤ M ∧ Hid (cntR (l.map Mx.r) ≤ 1000000000000) ∧ Hid (SkM w wr B mb g cap C cb c l) ∧ Hid ((skA CT.cmp c (l.map Mx.r)).Perm (skA CT.cmp c (l0.map Mx.r)) ∧ Hp CT.cmp 0 (l.map Mx.r) ∧ ∀ r ∈ l.map Mx.r, Rise CT.cmp r)) (fun _ wr => leftM mb wr)
  case atStart => exact ⟨l0, by rw [HM.out]; exact Nat.le_refl _, HA, HS0, List.Perm.refl _, HH.out⟩
  case round =>
    obtain ⟨l, hll, HLn, HLa, HLb⟩ := hrel
    have HFs := hid (first_any HLa.out.at'.at c)
    have c0 : wr.cell? ⟨cb, 0, none⟩ = some (.string c.r) := HLa.out.ce.cell 0; have c1 : wr.cell? ⟨cb, 1, none⟩ = some (.string c.f) := HLa.out.ce.cell 1; have c2 : wr.cell? ⟨cb, 2, none⟩ = some (.string c.q) := HLa.out.ce.cell 2; have c3 : wr.cell? ⟨cb, 3, none⟩ = some (.int .i64 c.t) := HLa.out.ce.cell 3; have c4 : wr.cell? ⟨cb, 4, none⟩ = some (.int .i64 c.k) := HLa.out.ce.cell 4; have c5 : wr.cell? ⟨cb, 5, none⟩ = some (.int .i64 c.vk) := HLa.out.ce.cell 5; have c6 : wr.cell? ⟨cb, 6, none⟩ = some (.int .i64 c.vn) := HLa.out.ce.cell 6; have c7 : wr.cell? ⟨cb, 7, none⟩ = some (.string c.s) := HLa.out.ce.cell 7
    obtain ⟨q, hq⟩ : ∃ q, fstI l c = q := ⟨_, rfl⟩
    rw [hq] at HFs
    by_cases hq0 : q < 0
    · obtain ⟨x, t, rfl⟩ : ∃ x1 t1, l = x1 :: t1 := by
        cases l with
        | nil => have : (1 : Int) = q := hq; omega
        | cons a b => exact ⟨a, b, rfl⟩
      have hxc : CT.cmp x.r.h c < 0 := by have : CT.cmp x.r.h c = q := hq; omega
      have htl : t.length ≤ 10000000000000 := by rw [List.length_cons] at hll; omega
      have HBs : Hid (∀ W, Below wr.heap.size wr W → _) := fun W hW => bs_skip (HLa.out.below hW) (HLb.out.2.2 x.r (by simp)) (by have := cntR_ge (x := x.r) (t := t.map Mx.r); have h9 := HLn.out; rw [List.map_cons] at h9; omega) hxc
      have HD2 : Hid (∀ W, Below wr.heap.size wr W → ∀ m, Hid (0 < m ∧ m ≤ x.r.cs.length ∧ ∀ (k : Nat) (y : CT), x.r.cs[k]? = some y → (k < m ↔ CT.cmp y c < 0)) → _) := fun W hW m hm => drop_skip (HLa.out.below hW) HLb.out.2.1 HLb.out.2.2 hm.out.2.1 hm.out.1 hm.out.2.2 (by omega) (by have := HLn.out; omega)
      clear hq hxc htl
      go_upto_region 2 with (go_at_call 129; refine HFs.out.mono ?_; rintro e v2 ⟨rfl, hb2⟩)
      clear c0 c1 c2 c3 c4 c5 c6 c7
      have HB2 := hid hb2
      have HL2 := hid (HLa.out.below hb2)
      clear hb2 HFs
      have s0 : v2.cell? ⟨mb, 0, none⟩ = some (.slice (some ⟨g, 0, none⟩) (t.length + 1) cap) := HL2.out.at'.blk.cell 0
      have p := (HL2.out.at'.row.words 0 (by simp)).1
      dsimp only [List.getElem_cons_zero] at p
      rw [Nat.zero_mul] at p
      have c0 : v2.cell? ⟨cb, 0, none⟩ = some (.string c.r) := HL2.out.ce.cell 0; have c1 : v2.cell? ⟨cb, 1, none⟩ = some (.string c.f) := HL2.out.ce.cell 1; have c2 : v2.cell? ⟨cb, 2, none⟩ = some (.string c.q) := HL2.out.ce.cell 2; have c3 : v2.cell? ⟨cb, 3, none⟩ = some (.int .i64 c.t) := HL2.out.ce.cell 3; have c4 : v2.cell? ⟨cb, 4, none⟩ = some (.int .i64 c.k) := HL2.out.ce.cell 4; have c5 : v2.cell? ⟨cb, 5, none⟩ = some (.int .i64 c.vk) := HL2.out.ce.cell 5; have c6 : v2.cell? ⟨cb, 6, none⟩ = some (.int .i64 c.vn) := HL2.out.ce.cell 6; have c7 : v2.cell? ⟨cb, 7, none⟩ = some (.string c.s) := HL2.out.ce.cell 7
      have hxu : ∃ A n cc, x.u = .slice A n cc := by
        obtain ⟨A, cc, e, _⟩ := HL2.out.at'.cl x (by simp)
        exact ⟨A, _, cc, e⟩
      obtain ⟨xu, hxe⟩ : ∃ xu, x.u = xu := ⟨_, rfl⟩
      rw [hxe] at p hxu HBs
      obtain ⟨A, n1, cc, rfl⟩ := hxu
      clear hxe
      obtain ⟨M1, hM1⟩ : ∃ M1, t.length + 1 = M1 := ⟨_, rfl⟩
      have hM10 : 0 < M1 := by omega
      have hM1b : M1 ≤ 10000000000000 := by rw [← hM1]; rw [List.length_cons] at hll; omega
      rw [hM1] at s0
      clear hM1
      go_region_with (go_simp; go_at_call 130; refine (HBs.out _ (HB2.out.drew)).mono ?_; rintro e v3 ⟨m, bb, rfl, Hm, HB3⟩)
      all_goals (
        have HB4 := hid ((HB2.out.drew).trans (HB3.out.mono (HB2.out.drew).size))
        have HD3 := hid (HD2.out v3 HB4.out m Hm)
        clear HD2 HBs s0 p c0 c1 c2 c3 c4 c5 c6 c7
        go_wp2_with (first | (go_at_call 128; refine HD3.out.mono ?_; rintro e v4 ⟨rfl, l3, hl3, hl4, HA3, HB3'⟩))
        go_roundw
        case rel => exact ⟨l3, by rw [List.length_cons] at hll; omega, (by have := HLn.out; unfold Hid; omega), HA3, HB3'.out.1.trans HLb.out.1, HB3'.out.2⟩
        case measure => rw [leftM_is HA3.out.at', leftM_is HLa.out.at']; exact hl4)
    · have hdone : skA CT.cmp c (l.map Mx.r) = l.map Mx.r := by
        cases l with
        | nil => rfl
        | cons a b => exact skip_done HLb.out.2.1 (by have : CT.cmp a.r.h c = q := hq; omega)
      have HP : Hid ((l.map Mx.r).Perm (skA CT.cmp c (l0.map Mx.r))) := by
        have := HLb.out.1
        rw [hdone] at this
        exact this
      clear hq hdone
      go_wp2_with (first | (go_at_call 129; refine HFs.out.mono ?_; rintro e v2 ⟨rfl, hb2⟩))
      have HL2 := hid (HLa.out.below hb2)
      refine bodyPost_end (results_none rfl _ _ _) rfl ?_
      exact ⟨rfl, l, ⟨HP.out, HLb.out.2.1⟩, HL2.out.at', HL2.out.ch⟩
end Go.Proofs.YtgfkobfkncpmoaaDoor
