/- merge.over: a merger over runs where they stand. Conditions: the argument stands, its cells are such as a machine bears, a thousand runs of a million cells at most. -/
import Derived.Test.YtgfkobfkncpmoaaDoorMgM
import Derived.Test.YtgfkobfkncpmoaaDoorMgN
import Derived.Test.YtgfkobfkncpmoaaDoorMgO
import Derived.Test.YtgfkobfkncpmoaaDoorRgT
import Derived.Maps.AppendAt
namespace Go.Proofs.YtgfkobfkncpmoaaDoor
open Go.RowKit

theorem info_run : (Tryd.prog.info? 145).map (fun i => (i.zero, i.size, i.bytes)) = some (some (.agg #[.slice none 0 0, .int .i64 0]), 2, 32) := by kernel_rfl
theorem x_ne0 {w : World} {k g : Nat} {T T' : TypeId} {xs ys : Array Value} (h : Blk w k T xs) (h2 : Blk w g T' ys) (hT : T ≠ T') : k ≠ g := by
  rintro rfl
  unfold Blk at h h2
  rw [h] at h2
  injection h2 with h2
  injection h2 with _ h3 _
  exact hT h3
theorem x_blk {w : World} {B sz n : Nat} {T : TypeId} {v : Value} {xs : List Value} (h : w.ownsRow B T sz v n xs) {g : Nat} (hg : v.ownBlock = some g) : ∃ cur, Blk w g T cur := by
  rcases h.2 with ⟨e, _⟩ | ⟨g', cap', cur, e, _, h2, _⟩
  · rw [e] at hg; cases hg
  · rw [e] at hg
    cases hg
    exact ⟨cur, h2⟩
theorem x_own0 {w w' : World} {B : Nat} {e : TypeId} {sz : Nat} {v : Value} {n : Nat} {xs : List Value} (h : w.ownsRow B e sz v n xs) (hk : ∀ g, v.ownBlock = some g → w'.heap[g]? = w.heap[g]?) : w'.ownsRow B e sz v n xs := by
  refine ⟨h.1, ?_⟩
  rcases h.2 with h | ⟨g, cap, cur, e, h1, h2, hr⟩
  · exact .inl h
  · exact .inr ⟨g, cap, cur, e, h1, (hk g (by rw [e]; rfl)).trans h2, hr⟩
theorem flatX_one (x : Mx) : flatX [x] = encX x := by unfold flatX; simp
/-- append of one run as one step of a region that draws. -/
theorem step_append_x {ops : Array Oper} {o : Oper} {a : Act} {K : Act → World → Prop} {Q : Exit → Act → World → Prop} {E : Prop} (hgd : o.guard = Option.none) (s x : Operand)
    (ho : o.op = .call { callee := .builtin .append, args := #[s, x], argTypes := #[141, 141] })
    (w : World) (base : Nat) (v : Value) (l : List Mx) (hs : a.eval s = v) (hown : XRow w base v l)
    (G c : Nat) (y : Mx) (hx : a.eval x = .slice (some ⟨G, 0, Option.none⟩) 1 c) (hc : ∀ j u, (encX y)[j]? = some u → w.cell? ((⟨G, 0, Option.none⟩ : Addr).add j) = some u) (hy : y.u.oneCell' = true)
    (hlen : l.length ≤ 100000000) (hbase : base ≤ w.heap.size)
    (hK : ∀ v' w', XRow w' base v' (l ++ [y]) → w.grownBy w' v.ownBlock → (v'.ownBlock = v.ownBlock ∨ v'.ownBlock = some w.heap.size) → K (a.put o.dst v') w') :
    if Region.wanted o (yielded ops a.tmps) = true then Oper.wp Tryd.prog o a w K Q else E := by
  have hw : Region.wanted o (yielded ops a.tmps) = true := by simp [Region.wanted, hgd]
  rw [if_pos hw]
  obtain ⟨i0, hi, hz0, hz1, hz2⟩ := info_parts info_run
  obtain ⟨v', w', hrun, r1, r2, _, r4⟩ := run_append_own_at (P := Tryd.prog) w base 141 o.type 145 i0 _ 2 32 Tryd.underlying141 hi hz0 hz1 hz2 rfl (by decide) v l.length (flatX l) hown ⟨G, 0, Option.none⟩ 1 c (encX y) rfl hc (fun u hu => by simp [encX] at hu; rcases hu with rfl | rfl <;> first | exact hy | rfl) (by unfold maxLen; omega) (by omega) hbase
  unfold Oper.wp
  simp [execOp, ho, resolve, invoke, builtin, hs, hx, hrun, Result.andThen]
  refine hK v' w' ?_ r2 r4
  show w'.ownsRow _ _ _ _ _ _
  rw [flatX_app, flatX_one, List.length_append]
  exact r1
theorem x_new (W : World) (y : Mx) : ∀ j u, (encX y)[j]? = some u → (W.alloc (.cells #[y.u, .int .i64 (y.r.i : Int)] 145)).cell? ((⟨W.heap.size, 0, Option.none⟩ : Addr).add j) = some u := fun j u hu => by
  rw [add_zero_off, Nat.zero_add, (Blk.new W 145 #[y.u, .int .i64 (y.r.i : Int)]).cell j, ← Array.getElem?_toList]
  exact hu
/-- Where over is. -/
structure OvM (w W : World) (mb : Nat) (v : Value) (l : List Mx) (n : Nat) : Prop where
  lo : w.heap.size ≤ mb
  blk : Blk W mb 143 #[v, .int .i64 (n : Int)]
  row : XRow W w.heap.size v l
  cl : ∀ x ∈ l, ClA w x.u x.r.cs
  bd : ∀ x ∈ l, ∀ b, x.u.ownBlock = some b → b < w.heap.size
  be : Below w.heap.size w W
theorem OvM.below {w W W2 : World} {mb n : Nat} {v : Value} {l : List Mx} (h : OvM w W mb v l n) (hb : Below W.heap.size W W2) : OvM w W2 mb v l n :=
  ⟨h.lo, h.blk.keep hb h.blk.lt, x_own0 h.row fun g hg => hb.block g (by obtain ⟨cur, hc⟩ := x_blk h.row hg; exact hc.lt), h.cl, h.bd, h.be.trans (hb.mono h.be.size)⟩
theorem OvM.row_ne {w W : World} {mb n : Nat} {v : Value} {l : List Mx} (h : OvM w W mb v l n) : v.ownBlock ≠ some mb := fun e => by
  obtain ⟨cur, hc⟩ := x_blk h.row e
  exact x_ne0 hc h.blk (by decide) rfl
theorem ov_app {w W W1 W2 : World} {mb n : Nat} {v v2 : Value} {l : List Mx} {x : Mx} (h : OvM w W mb v l n) (hb : Below W.heap.size W W1) (hr : XRow W2 w.heap.size v2 (l ++ [x])) (hg : W1.grownBy W2 v.ownBlock) (hx : ClA w x.u x.r.cs) (hxb : ∀ b, x.u.ownBlock = some b → b < w.heap.size) :
    OvM w (W2.setCell ⟨mb, 0, none⟩ v2) mb v2 (l ++ [x]) n := by
  have h1 := h.below hb
  have k2 : Blk W2 mb 143 #[v, .int .i64 (n : Int)] := (hg.block mb h1.blk.lt fun e => h1.row_ne e.symm).trans h1.blk
  refine ⟨h.lo, k2.set 0 _, x_own0 hr fun g hg2 => Below.heap_setCell _ _ _ _ fun e => ?_, fun y hy => ?_, fun y hy => ?_, (h1.be.grown hg h1.be.size fun k hk => (World.ownsRow.lt h1.row k hk).1).trans ⟨rfl, rfl, rfl, by simp [World.setCell], fun k hk => Below.heap_setCell _ _ _ _ fun e => by have := h.lo; simp only at e; omega⟩⟩
  · obtain ⟨cur, hc⟩ := x_blk hr hg2
    exact x_ne0 hc k2 (by decide) e
  · rcases List.mem_append.1 hy with hy | hy
    · exact h.cl y hy
    · rw [List.mem_singleton.1 hy]; exact hx
  · rcases List.mem_append.1 hy with hy | hy
    · exact h.bd y hy
    · rw [List.mem_singleton.1 hy]; exact hxb
theorem ov_cnt {w W : World} {mb n : Nat} {v : Value} {l : List Mx} (h : OvM w W mb v l n) (k : Nat) : OvM w (W.setCell ⟨mb, 1, none⟩ (.int .i64 ((n : Int) + (k : Int)))) mb v l (n + k) := by
  refine ⟨h.lo, ?_, x_own0 h.row fun g hg => Below.heap_setCell _ _ _ _ fun e => h.row_ne (by rw [hg]; exact congrArg some e), h.cl, h.bd, h.be.trans ⟨rfl, rfl, rfl, by simp [World.setCell], fun k hk => Below.heap_setCell _ _ _ _ fun e => by have := h.lo; simp only at e; omega⟩⟩
  rw [Int.natCast_add]
  exact h.blk.set 1 _
/-- What a round reads. -/
abbrev OvS (mb : Nat) (v : Value) (W : World) : Prop := W.cell? ⟨mb, 0, none⟩ = some v ∧ W.frozen? ⟨mb, 0, none⟩ = false
theorem ovs_grown {W W' : World} {mb : Nat} {v : Value} {r : Option Nat} (h : OvS mb v W) (hg : W.grownBy W' r) (hr : r ≠ some mb) : OvS mb v W' := by
  have k0 : W'.heap[mb]? = W.heap[mb]? := hg.block mb (cell_lt h.1) fun e => hr e.symm
  exact ⟨(World.cell?_of_block (a := ⟨mb, 0, none⟩) k0).trans h.1, (World.frozen?_of_block (a := ⟨mb, 0, none⟩) k0).trans h.2⟩
theorem ovs_below {W W' : World} {mb : Nat} {v : Value} (h : OvS mb v W) (hb : Below W.heap.size W W') : OvS mb v W' := ovs_grown (r := none) h ⟨hb.os, hb.tape, hb.output, hb.size, fun k hk _ => hb.block k hk⟩ (by simp)
theorem cla_take {w : World} {A : Option Addr} {n c : Nat} {l : List CT} (h : ClA w (.slice A n c) l) (k : Nat) (hk : k ≤ l.length) : ClA w (.slice A k c) (l.take k) := by
  obtain ⟨A', c', e, h1, h2, h3⟩ := h
  injection e with e1 e2 e3
  subst e1 e3
  have hl : (l.take k).length = k := by rw [List.length_take]; omega
  refine ⟨A, c, by rw [hl], by omega, h2, fun h0 => ?_⟩
  obtain ⟨b, off, e, hh⟩ := h3 (by omega)
  refine ⟨b, off, e, fun i hi j hj => ?_⟩
  rw [List.getElem_take]
  exact hh i (by omega) j hj
theorem runs_snoc {rs : List (List CT)} {i : Nat} {r : List CT} (hr : rs[i]? = some r) : runsF begL 0 (rs.take (i + 1)) = runsF begL 0 (rs.take i) ++ (ofL (begL r) i).toList := by
  obtain ⟨hi, _⟩ := List.getElem?_eq_some_iff.1 hr
  have e1 : rs.take (i + 1) = rs.take i ++ [r] := by rw [List.take_add_one, hr]; rfl
  rw [e1, runsF_snoc, List.length_take, Nat.min_eq_left (by omega), Nat.zero_add]
/-- What over has made of some runs. -/
structure OvL (rs : List (List CT)) (i n : Nat) (l : List Mx) : Prop where
  eq : l.map Mx.r = runsF begL 0 (rs.take i)
  cnt : n = cntR (l.map Mx.r)
  le : n ≤ i * 1000000
  len : l.length ≤ i
theorem OvL.skip {rs : List (List CT)} {i n : Nat} {l : List Mx} (h : OvL rs i n l) {r : List CT} (hr : rs[i]? = some r) (h0 : begI r = 0) : OvL rs (i + 1) n l := by
  have e : begL r = [] := by
    show r.take (begI r) = []
    rw [h0, List.take_zero]
  refine ⟨?_, h.cnt, Nat.le_trans h.le (Nat.mul_le_mul_right _ (Nat.le_succ i)), Nat.le_trans h.len (Nat.le_succ i)⟩
  rw [runs_snoc hr, ← h.eq, e]
  exact (List.append_nil _).symm
theorem OvL.one {rs : List (List CT)} {i n : Nat} {l : List Mx} (h : OvL rs i n l) {r : List CT} (hr : rs[i]? = some r) {u : Value} {x : CT} {t : List CT} (h0 : begL r = x :: t) (hl : r.length ≤ 1000000) : OvL rs (i + 1) (n + begI r) (l ++ [⟨u, ⟨x, t, i⟩⟩]) := by
  have hb : begI r ≤ r.length := begN_le CT.ok none r
  have hlen : (x :: t).length = begI r := by
    rw [← h0]
    show (r.take (begI r)).length = _
    rw [List.length_take]
    omega
  refine ⟨?_, ?_, by have := h.le; omega, by have := h.len; rw [List.length_append, List.length_singleton]; omega⟩
  · rw [runs_snoc hr, ← h.eq, h0, List.map_append]
    rfl
  · rw [List.map_append, cntR_app, ← h.cnt]
    show n + begI r = n + ((x :: t).length + 0)
    rw [hlen]
    rfl
/-- A merger stands: what is left is H, however it lies. -/
def MgS (W : World) (B G C mb : Nat) (H : List (Rn CT)) : Prop := mb < G ∧ G ≤ W.heap.size ∧ ((H = [] ∧ ∃ v, MAt W B mb v [] 0 ∧ ∀ k, v.ownBlock = some k → k < G) ∨ (∃ g cap x l, g < G ∧ MAg W B mb g cap C (x :: l) (cntR ((x :: l).map Mx.r)) ∧ ((x :: l).map Mx.r).Perm H ∧ Hp CT.cmp 0 ((x :: l).map Mx.r)))
def OvE (w : World) (H : List (Rn CT)) (e : Ending) (w' : World) : Prop := ∃ mb, e = .returned (.pointer (some ⟨mb, 0, none⟩)) ∧ Below w.heap.size w w' ∧ MgS w' w.heap.size w'.heap.size w.heap.size mb H
theorem OvM.mag {w W : World} {mb n g N cap : Nat} {l : List Mx} (h : OvM w W mb (.slice (some ⟨g, 0, none⟩) N cap) l n) (h0 : 0 < l.length) : MAg W w.heap.size mb g cap w.heap.size l n := by
  obtain ⟨g', e, hR, hB, hN⟩ := xrow_rowX h.row h0
  injection e with e
  injection e with e
  subst e hN
  refine ⟨h.lo, hB, fun e => h.row_ne (congrArg some e), h.blk, hR, fun x hx => (h.cl x hx).below h.be, fun x hx b hb => ?_⟩
  have := h.bd x hx b hb
  have := h.lo
  exact ⟨by omega, by omega, by assumption⟩
theorem hp_half {H : List (Rn CT)} {k : Nat} (hk : H.length ≤ k * 2 + 1) : Hp CT.cmp k H := fun p c a b h1 h2 h3 h4 => by
  have : c < H.length := by
    rcases Nat.lt_or_ge c H.length with q | q
    · exact q
    · rw [List.getElem?_eq_none q] at h2; cases h2
  unfold chd at h4
  omega
theorem ovm_nil {w W : World} {mb n : Nat} {v : Value} (h : OvM w W mb v [] n) : MAt W w.heap.size mb v [] n := ⟨h.lo, h.blk, h.row, fun x hx => by simp at hx, fun x hx => by simp at hx⟩

set_option maxRecDepth 100000 in
set_option maxHeartbeats 16000000 in
theorem over_any (v : Value) (rs : List (List CT)) (w : World) (h : RsA w v rs) (hs : ∀ l ∈ rs, l.length ≤ 1000000 ∧ ∀ c ∈ l, okC c) (hl : rs.length ≤ 1000) (hL : LaidU w) :
    Calls Tryd.prog 126 #[v] w fun e w' => OvE w (runsF begL 0 rs) e w' := by
  have mixed : Tryd.prog.follows .mixedOrders = true := by kernel_rfl
  obtain ⟨A, cap, rfl, hc1, hc2, hh⟩ := h
  have HH := hid hh
  obtain ⟨N, hN⟩ : ∃ N, rs.length = N := ⟨_, rfl⟩
  have HN := hid hN
  rw [hN] at hc1 hl ⊢
  have HS := hid hs
  have HBg : Hid (∀ (u : Value) (r : List CT) (W : World), Below w.heap.size w W → ClA w u r → (∀ c ∈ r, okC c) → Calls Tryd.prog 182 #[u] W fun e w' => e = .returned (.int .i64 (begI r : Int)) ∧ Below W.heap.size W w') := fun u r W hW hu hr => beg_any u r W (hu.below hW) hr (hL.below hW)
  clear hh hN hs hL
  go_enter Tryd.func126, Tryd.ntmps126
  go_upto_region 2 with (fail)
  obtain ⟨mb, hmb⟩ : ∃ mb, w.heap.size = mb := ⟨_, rfl⟩
  have HO0 : Hid (OvM w (w.alloc (.cells #[.slice none 0 0, .int .i64 0] 143)) mb (.slice none 0 0) [] 0 ∧ OvL rs 0 0 []) := by
    rw [← hmb]
    exact ⟨⟨Nat.le_refl _, Blk.new w _ _, ⟨rfl, .inl ⟨rfl, rfl⟩⟩, fun x hx => by simp at hx, fun x hx => by simp at hx, below_new w _⟩, ⟨rfl, rfl, Nat.le_refl _, Nat.le_refl _⟩⟩
  rw [hmb]
  obtain ⟨W0, hW0⟩ : ∃ W, w.alloc (.cells #[.slice none 0 0, .int .i64 0] 143) = W := ⟨_, rfl⟩
  rw [hW0] at HO0 ⊢
  clear hmb hW0
  go_wp2
  go_loopw [12] (fun vi wr => ∃ (i : Nat) (v : Value) (l : List Mx) (n : Nat), i ≤ N ∧ vi = .int .i64 i ∧ Hid (OvM w wr mb v l n ∧ OvL rs i n l)) (fun vi _ => N - (intOf vi).toNat)
  case atStart => exact ⟨0, _, [], 0, Nat.zero_le _, rfl, HO0⟩
  case round =>
    clear HO0
    obtain ⟨i, v, l, n, hi, rfl, HI⟩ := hrel
    by_cases hlt : i < N
    · have hltz : (i : Int) < (N : Int) := by omega
      have hil : i < rs.length := by rw [HN.out]; exact hlt
      obtain ⟨b, off, rfl, hhc⟩ := HH.out (by omega)
      obtain ⟨r, hr⟩ : ∃ r, rs[i]? = some r := ⟨_, List.getElem?_eq_getElem hil⟩
      obtain ⟨u, hu, hcl⟩ := hhc i r hr
      have x0 := (HI.out.1.be.cell (p := ⟨b, off + i, none⟩) (cell_lt hu)).trans hu
      have hrs := HS.out r (List.mem_of_getElem? hr)
      have HBr := hid (HBg.out u r wr HI.out.1.be hcl hrs.2)
      have HR := hid hr
      have HCl := hid hcl
      have hbl : begI r ≤ r.length := begN_le CT.ok none r
      have HrL : Hid (r.length ≤ 1000000) := hrs.1
      obtain ⟨Au, cu, rfl, hu1, hu2, hu3⟩ := hcl
      have HU3 := hid hu3
      obtain ⟨nr, hnr⟩ : ∃ nr, r.length = nr := ⟨_, rfl⟩
      have HNr := hid hnr
      have hnrb : nr ≤ 1000000 := by rw [← hnr]; exact hrs.1
      rw [hnr] at x0 HBr HCl hbl hu1
      obtain ⟨k, hk⟩ : ∃ k, begI r = k := ⟨_, rfl⟩
      have HK := hid hk
      rw [hk] at HBr hbl
      clear hr hu hrs hnr hk hil hhc hu3
      by_cases hk0 : k = 0
      · subst hk0
        go_wp2_with (first | (go_at_call 182; refine HBr.out.mono ?_; rintro e w5 ⟨rfl, hb5⟩))
        go_roundw
        case rel => exact ⟨i + 1, v, l, n, by omega, by go_num, HI.out.1.below hb5, HI.out.2.skip HR.out HK.out⟩
        case measure => simp [intOf]; omega
      · have hk0z : (0 : Int) < (k : Int) := by omega
        obtain ⟨h0, t0, hb0⟩ : ∃ h0 t0, begL r = h0 :: t0 := by
          cases hb : begL r with
          | nil =>
            have : (r.take (begI r)).length = 0 := by show (begL r).length = 0; rw [hb]; rfl
            rw [List.length_take, HK.out, HNr.out] at this
            omega
          | cons a t => exact ⟨a, t, rfl⟩
        have HB0 := hid hb0
        obtain ⟨bu, ou, rfl, hhu⟩ := HU3.out (by rw [HNr.out]; omega)
        have HX : Hid (ClA w (.slice (some ⟨bu, ou, none⟩) k cu) (h0 :: t0)) := by
          have := cla_take HCl.out k (by rw [HNr.out]; exact hbl)
          rw [show r.take k = begL r by rw [← HK.out]; rfl, hb0] at this
          exact this
        have HXb : Hid (bu < w.heap.size) := hhu.lt (by rw [HNr.out]; omega)
        have hkc : k ≤ cu := by omega
        clear hb0 hhu
        obtain ⟨A2, c2, rfl⟩ := xrow_form HI.out.1.row rfl
        obtain ⟨p, hp⟩ : ∃ p, l.length = p := ⟨_, rfl⟩
        have HP := hid hp
        have hpb : p ≤ 1000 := by have := HI.out.2.len; omega
        have hnb : n ≤ 1000000000 := by have := HI.out.2.le; omega
        rw [hp] at HI
        clear hp
        go_upto_region 7 with (first | (go_at_call 182; refine HBr.out.mono ?_; rintro e w5 ⟨rfl, hb5⟩))
        have HI5 := hid (And.intro (HI.out.1.below hb5) (HI.out.2.one HR.out (u := .slice (some ⟨bu, ou, none⟩) k cu) HB0.out HrL.out))
        have HI6 : Hid (OvL rs i n l) := HI.out.2
        rw [HK.out] at HI5
        have HS5 : OvS mb (.slice A2 p c2) w5 := ⟨HI5.out.1.blk.cell 0, HI5.out.1.blk.free 0⟩
        clear hb5 HBr HI x0
        refine wp_region_till 14 (OvS mb (.slice A2 p c2)) (by kernel_rfl) (ovs_below HS5 (Below.refl _ _).drew) (fun hHeld => ?_)
        (refine wpAnyT_take (i := 0) (v := ?_) rfl (by kernel_rfl) (fun _ _ _ h => h) (Or.inl ⟨by kernel_rfl, ?_⟩) (by assumption) ?_; rotate_left; · (intro w hSw; (try dsimp only at hSw); go_split_ands; go_simp; first | done | with_reducible rfl))
        (try simp only [Act.put]); (try simp only [List.getElem_toArray]); (try simp only [List.getElem_cons_succ]); (try simp only [List.getElem_cons_zero]); (try simp only [List.setIfInBounds_toArray]); (try simp only [List.set_cons_succ]); (try simp only [List.set_cons_zero])
        (refine wpAnyT_take (i := 1) (v := ?_) rfl (by kernel_rfl) (fun _ _ _ h => h) (Or.inl ⟨by kernel_rfl, ?_⟩) (by assumption) ?_; rotate_left; · (intro w hSw; (try dsimp only at hSw); go_split_ands; go_simp; first | done | with_reducible rfl))
        (try simp only [Act.put]); (try simp only [List.getElem_toArray]); (try simp only [List.getElem_cons_succ]); (try simp only [List.getElem_cons_zero]); (try simp only [List.setIfInBounds_toArray]); (try simp only [List.set_cons_succ]); (try simp only [List.set_cons_zero])
        (refine wpAnyT_take (i := 2) (v := ?_) rfl (by kernel_rfl) (fun _ _ _ h => h) (Or.inl ⟨by kernel_rfl, ?_⟩) (by assumption) ?_; rotate_left; · (intro w hSw; (try dsimp only at hSw); go_split_ands; go_simp; first | done | with_reducible rfl))
        (try simp only [Act.put]); (try simp only [List.getElem_toArray]); (try simp only [List.getElem_cons_succ]); (try simp only [List.getElem_cons_zero]); (try simp only [List.setIfInBounds_toArray]); (try simp only [List.set_cons_succ]); (try simp only [List.set_cons_zero])
        (refine wpAnyT_take (i := 3) (v := ?_) rfl (by kernel_rfl) (fun _ _ _ h => h) (Or.inl ⟨by kernel_rfl, ?_⟩) (by assumption) ?_; rotate_left; · (intro w hSw; (try dsimp only at hSw); go_split_ands; go_simp; first | done | with_reducible rfl))
        (try simp only [Act.put]); (try simp only [List.getElem_toArray]); (try simp only [List.getElem_cons_succ]); (try simp only [List.getElem_cons_zero]); (try simp only [List.setIfInBounds_toArray]); (try simp only [List.set_cons_succ]); (try simp only [List.set_cons_zero])
        (refine wpAnyT_take (i := 4) (v := ?_) rfl (by kernel_rfl) (fun _ _ _ h => h) (Or.inl ⟨by kernel_rfl, ?_⟩) (by assumption) ?_; rotate_left; · (intro w hSw; (try dsimp only at hSw); go_split_ands; go_simp; first | done | with_reducible rfl))
        (try simp only [Act.put]); (try simp only [List.getElem_toArray]); (try simp only [List.getElem_cons_succ]); (try simp only [List.getElem_cons_zero]); (try simp only [List.setIfInBounds_toArray]); (try simp only [List.set_cons_succ]); (try simp only [List.set_cons_zero])
        (refine wpAnyT_take (i := 5) (v := ?_) rfl (by kernel_rfl) (fun _ _ _ h => h) (Or.inl ⟨by kernel_rfl, ?_⟩) (by assumption) ?_; rotate_left; · (intro w hSw; (try dsimp only at hSw); go_split_ands; go_simp; first | done | with_reducible rfl))
        (try simp only [Act.put]); (try simp only [List.getElem_toArray]); (try simp only [List.getElem_cons_succ]); (try simp only [List.getElem_cons_zero]); (try simp only [List.setIfInBounds_toArray]); (try simp only [List.set_cons_succ]); (try simp only [List.set_cons_zero])
        (refine wpAnyT_take (i := 6) (v := ?_) rfl (by kernel_rfl) (fun _ _ _ h => h) (Or.inl ⟨by kernel_rfl, ?_⟩) (by assumption) ?_; rotate_left; · (intro w hSw; (try dsimp only at hSw); go_split_ands; go_simp; first | done | with_reducible rfl))
        (try simp only [Act.put]); (try simp only [List.getElem_toArray]); (try simp only [List.getElem_cons_succ]); (try simp only [List.getElem_cons_zero]); (try simp only [List.setIfInBounds_toArray]); (try simp only [List.set_cons_succ]); (try simp only [List.set_cons_zero])
        (refine wpAnyT_take (i := 7) (v := ?_) rfl (by kernel_rfl) (fun _ _ _ h => h) (Or.inl ⟨by kernel_rfl, ?_⟩) (by assumption) ?_; rotate_left; · (intro w hSw; (try dsimp only at hSw); go_split_ands; go_simp; first | done | with_reducible rfl))
        (try simp only [Act.put]); (try simp only [List.getElem_toArray]); (try simp only [List.getElem_cons_succ]); (try simp only [List.getElem_cons_zero]); (try simp only [List.setIfInBounds_toArray]); (try simp only [List.set_cons_succ]); (try simp only [List.set_cons_zero])
        (refine wpAnyT_take (i := 8) (v := ?_) rfl (by kernel_rfl) (fun _ _ _ h => h) (Or.inl ⟨by kernel_rfl, ?_⟩) (by assumption) ?_; rotate_left; · (intro w hSw; (try dsimp only at hSw); go_split_ands; go_simp; first | done | with_reducible rfl))
        (try simp only [Act.put]); (try simp only [List.getElem_toArray]); (try simp only [List.getElem_cons_succ]); (try simp only [List.getElem_cons_zero]); (try simp only [List.setIfInBounds_toArray]); (try simp only [List.set_cons_succ]); (try simp only [List.set_cons_zero])
        (refine wpAnyT_take (i := 9) (v := ?_) rfl (by kernel_rfl) (fun _ _ _ h => h) (Or.inl ⟨by kernel_rfl, ?_⟩) (by assumption) ?_; rotate_left; · (intro w hSw; (try dsimp only at hSw); go_split_ands; go_simp; first | done | with_reducible rfl))
        (try simp only [Act.put]); (try simp only [List.getElem_toArray]); (try simp only [List.getElem_cons_succ]); (try simp only [List.getElem_cons_zero]); (try simp only [List.setIfInBounds_toArray]); (try simp only [List.set_cons_succ]); (try simp only [List.set_cons_zero])
        (refine wpAnyT_one (i := 10) (by kernel_rfl) rfl (fun K hK => ?_); go_simp; refine hK.out _ _ (.inr ?_) (fun hHeld => ?_))
        · exact ovs_below hHeld (below_new _ _)
        replace hHeld := hHeld.resolve_left (by decide)
        clear hK K
        (try simp only [Act.put]); (try simp only [List.getElem_toArray]); (try simp only [List.getElem_cons_succ]); (try simp only [List.getElem_cons_zero]); (try simp only [List.setIfInBounds_toArray]); (try simp only [List.set_cons_succ]); (try simp only [List.set_cons_zero])
        (refine wpAnyT_one (i := 11) (by kernel_rfl) rfl (fun K hK => ?_); refine step_append_x rfl (.tmp 25) (.tmp 31) rfl _ w.heap.size (.slice A2 p c2) l rfl (HI5.out.1.below ((Below.refl _ w5).drew.trans (below_new w5.drew _))).row _ 1 ⟨.slice (some ⟨bu, ou, none⟩) k cu, ⟨h0, t0, i⟩⟩ rfl (x_new _ ⟨.slice (some ⟨bu, ou, none⟩) k cu, ⟨h0, t0, i⟩⟩) rfl (by rw [HP.out]; omega) (by have := HI5.out.1.be.size; simp; omega) ?_; intro v2 w2 hr2 hg2 hl2; obtain ⟨A3, c3, rfl⟩ := xrow_form hr2 (show (l ++ [_]).length = p + 1 by rw [List.length_append, HP.out]; rfl); have HE := hid (ov_app HI5.out.1 ((Below.refl _ w5).drew.trans (below_new w5.drew _)) hr2 hg2 HX.out (fun b hb => by cases hb; exact HXb.out)); have hS2 := ovs_grown hHeld hg2 (fun e => HI5.out.1.row_ne e); clear hr2 hg2 hl2; refine hK.out _ _ (.inr ?_) (fun hHeld => ?_))
        · exact hS2
        replace hHeld := hHeld.resolve_left (by decide)
        clear hK K
        (try simp only [Act.put]); (try simp only [List.getElem_toArray]); (try simp only [List.getElem_cons_succ]); (try simp only [List.getElem_cons_zero]); (try simp only [List.setIfInBounds_toArray]); (try simp only [List.set_cons_succ]); (try simp only [List.set_cons_zero])
        clear hS2
        (refine wpAnyT_one (i := 12) (by kernel_rfl) rfl (fun K hK => ?_); go_simp; refine hK.out _ _ (.inr ?_) (fun hHeld => ?_))
        · exact hHeld
        replace hHeld := hHeld.resolve_left (by decide)
        clear hK K
        (try simp only [Act.put]); (try simp only [List.getElem_toArray]); (try simp only [List.getElem_cons_succ]); (try simp only [List.getElem_cons_zero]); (try simp only [List.setIfInBounds_toArray]); (try simp only [List.set_cons_succ]); (try simp only [List.set_cons_zero])
        (refine wpAnyT_one (i := 13) (by kernel_rfl) rfl (fun K hK => ?_); go_simp; refine hK.out _ _ (.inr ?_) (fun hHeld => ?_))
        · exact hHeld
        replace hHeld := hHeld.resolve_left (by decide)
        clear hK K
        (try simp only [Act.put]); (try simp only [List.getElem_toArray]); (try simp only [List.getElem_cons_succ]); (try simp only [List.getElem_cons_zero]); (try simp only [List.setIfInBounds_toArray]); (try simp only [List.set_cons_succ]); (try simp only [List.set_cons_zero])
        (refine wpAnyT_one (i := 14) (by kernel_rfl) rfl (fun K hK => ?_); obtain ⟨r0, r1⟩ := hHeld; go_simp; refine hK.out _ _ (.inl rfl) (fun _ => ?_))
        clear hK K
        (try simp only [Act.put]); (try simp only [List.getElem_toArray]); (try simp only [List.getElem_cons_succ]); (try simp only [List.getElem_cons_zero]); (try simp only [List.setIfInBounds_toArray]); (try simp only [List.set_cons_succ]); (try simp only [List.set_cons_zero])
        refine wpAnyT_done (by kernel_rfl) ?_ _
        obtain ⟨W7, hW7⟩ : ∃ W, w2.setCell ⟨mb, 0, none⟩ (.slice A3 (p + 1) c3) = W := ⟨_, rfl⟩
        rw [hW7] at HE ⊢
        clear hW7
        have m1 : W7.cell? ⟨mb, 1, none⟩ = some (.int .i64 (n : Int)) := HE.out.blk.cell 1
        have hf1 := HE.out.blk.free 1
        have HF := hid (ov_cnt HE.out k)
        have hwr : IntKind.i64.wrap ((n : Int) + (k : Int)) = (n : Int) + (k : Int) := by rw [IntKind.wrap_i64]; omega
        clear HE
        go_wp2
        go_roundw
        case rel => exact ⟨i + 1, _, _, n + k, by omega, by go_num, HF.out, HI5.out.2⟩
        case measure => simp [intOf]; omega
    · obtain rfl : i = N := by omega
      have HIe : Hid (OvM w wr mb v l n ∧ OvL rs i n l ∧ l.map Mx.r = runsF begL 0 rs) := ⟨HI.out.1, HI.out.2, by have := HI.out.2.eq; rw [← HN.out, List.take_length] at this; exact this⟩
      clear HI
      obtain ⟨A2, c2, rfl⟩ := xrow_form HIe.out.1.row rfl
      obtain ⟨p, hp⟩ : ∃ p, l.length = p := ⟨_, rfl⟩
      have HP := hid hp
      have hpb : p ≤ 1000 := by have := HIe.out.2.1.len; omega
      rw [hp] at HIe
      clear hp
      have m0 : wr.cell? ⟨mb, 0, none⟩ = some (.slice A2 p c2) := HIe.out.1.blk.cell 0
      obtain ⟨q, hq⟩ : ∃ q, p / 2 = q := ⟨_, rfl⟩
      have hqz : (p : Int) / 2 = (q : Int) := by omega
      have hqz2 : (p : Int).tdiv 2 = (q : Int) := by rw [Int.tdiv_eq_ediv_of_nonneg (by omega)]; omega
      have hqw : IntKind.i64.wrap ((q : Int) - 1) = (q : Int) - 1 := by rw [IntKind.wrap_i64]; omega
      have hqw0 : IntKind.i64.wrap (q : Int) = (q : Int) := by rw [IntKind.wrap_i64]; omega
      have hqp : p ≤ q * 2 + 1 := by omega
      have hq2 : q * 2 ≤ p := by omega
      clear hq
      rcases Nat.eq_zero_or_pos p with hp0 | hp0
      · subst hp0
        obtain rfl : q = 0 := by omega
        have hl0 : l = [] := List.eq_nil_of_length_eq_zero HP.out
        subst hl0
        have HZ : Hid (OvE w (runsF begL 0 rs) (.returned (.pointer (some ⟨mb, 0, none⟩))) wr) := ⟨mb, rfl, HIe.out.1.be, HIe.out.1.blk.lt, Nat.le_refl _, .inl ⟨HIe.out.2.2.symm, _, by have := ovm_nil HIe.out.1; rw [show n = 0 from HIe.out.2.1.cnt] at this; exact this, fun k hk => (World.ownsRow.lt HIe.out.1.row k hk).2⟩⟩
        go_wp2
        refine wp_loop_rounds 1 ?_
        rw [rounds_succ]; go_wp2
        go_ret
        exact HZ.out
      · obtain ⟨g, rfl, -⟩ := xrow_rowX HIe.out.1.row (by rw [HP.out]; exact hp0)
        have HM : Hid (MAg wr w.heap.size mb g c2 w.heap.size l n) := HIe.out.1.mag (by rw [HP.out]; exact hp0)
        have HMe : Hid (n = cntR (l.map Mx.r) ∧ l.map Mx.r = runsF begL 0 rs ∧ Below w.heap.size w wr) := ⟨HIe.out.2.1.cnt, HIe.out.2.2, HIe.out.1.be⟩
        have HHp : Hid (Hp CT.cmp q (l.map Mx.r)) := hp_half (by rw [List.length_map, HP.out]; exact hqp)
        clear HIe
        go_upto_region 11 with (fail)
        clear m0
        obtain ⟨wz, hwz⟩ : ∃ x, x = wr := ⟨_, rfl⟩
        subst hwz
        go_loopw [7] (fun vj wr => ∃ (j : Nat) (l2 : List Mx), j ≤ q ∧ vj = .int .i64 ((j : Int) - 1) ∧ Hid (l2.Perm l ∧ Hp CT.cmp j (l2.map Mx.r)) ∧ Hid (MAg wr w.heap.size mb g c2 w.heap.size l2 n ∧ Chx g wz wr)) (fun vj _ => (intOf vj + 1).toNat)
        case atStart => exact ⟨q, l, Nat.le_refl _, rfl, ⟨List.Perm.refl _, HHp.out⟩, HM.out, Chx.refl _ _⟩
        case round =>
          obtain ⟨j, l2, hj, rfl, HA, HB⟩ := hrel
          rcases Nat.eq_zero_or_pos j with hj0 | hj0
          · subst hj0
            have HZ : Hid (OvE w (runsF begL 0 rs) (.returned (.pointer (some ⟨mb, 0, none⟩))) wr) := by
              refine ⟨mb, rfl, HMe.out.2.2.trans ((HB.out.2.y (mb := mb)).below HB.out.1.lg HB.out.1.lo HMe.out.2.2.size), HB.out.1.blk.lt, Nat.le_refl _, .inr ?_⟩
              have hp2 : (l2.map Mx.r).Perm (runsF begL 0 rs) := by rw [← HMe.out.2.1]; exact HA.out.1.map _
              have hc : n = cntR (l2.map Mx.r) := by rw [HMe.out.1]; exact (cntR_perm (HA.out.1.map _)).symm
              have hl2 : l2.length = p := by rw [HA.out.1.length_eq, HP.out]
              cases l2 with
              | nil => simp at hl2; omega
              | cons x t => exact ⟨g, c2, x, t, HB.out.1.row.lt, by rw [← hc]; exact HB.out.1, hp2, HA.out.2⟩
            go_wp2
            go_ret
            exact HZ.out
          · obtain ⟨j, rfl⟩ : ∃ j', j = j' + 1 := ⟨j - 1, by omega⟩
            have hjz : (0 : Int) ≤ ((j + 1 : Nat) : Int) - 1 := by omega
            have hje : ((j + 1 : Nat) : Int) - 1 = (j : Int) := by omega
            have hjw : IntKind.i64.wrap ((j : Int) - 1) = (j : Int) - 1 := by rw [IntKind.wrap_i64]; omega
            have hl2 : l2.length = p := by rw [HA.out.1.length_eq, HP.out]
            have HSk := hid (sink_any (i0 := j) wr HB.out.1 (sk_start HA.out.2) (by rw [hl2]; omega) (by rw [hl2]; omega))
            rw [hje]
            have hj0z : (0 : Int) ≤ (j : Int) := by omega
            clear hl2 hje hjz
            go_wp2_with (first | (go_at_call 183; refine HSk.out.mono ?_; rintro e w6 ⟨rfl, l3, HA3, HB3⟩))
            go_roundw
            case rel => exact ⟨j, l3, by omega, by go_num, ⟨HA3.out.1.trans HA.out.1, HA3.out.2⟩, HB3.out.1, HB.out.2.trans HB3.out.2⟩
            case measure => first | (simp [intOf]; done) | (simp [intOf]; omega)
end Go.Proofs.YtgfkobfkncpmoaaDoor
