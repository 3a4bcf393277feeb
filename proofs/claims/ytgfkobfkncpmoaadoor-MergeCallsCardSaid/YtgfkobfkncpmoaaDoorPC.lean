/- Several texts in one: MhI MhE MhJ MhK. Conditions: as each theorem names them. -/
import Derived.Test.YtgfkobfkncpmoaaDoorMhH
import Derived.Test.YtgfkobfkncpmoaaDoorMhD
import Derived.Test.YtgfkobfkncpmoaaDoorKD
import Derived.Test.YtgfkobfkncpmoaaDoorP9
import Derived.Test.YtgfkobfkncpmoaaDoorPD
/- The document's Merge; both mergers tell the same. Conditions: those of the document's New. -/
namespace Go.Proofs.YtgfkobfkncpmoaaDoor
open Go.RowKit

/-- The runs that the document's merger has left. -/
abbrev rnL (ls : List (List CT)) : List (Rn CT) := runsF id 0 ls
theorem rnL_mem {ls : List (List CT)} {r : Rn CT} : r ∈ rnL ls ↔ ∃ (j : Nat), ls[j]? = some (r.h :: r.t) ∧ r.i = j := by
  rw [runsF_mem]
  constructor
  · rintro ⟨j, l, h1, h2, h3⟩
    exact ⟨j, by rw [h1, show l = r.h :: r.t from h2], by omega⟩
  · rintro ⟨j, h1, h2⟩
    exact ⟨j, _, h1, rfl, by omega⟩
theorem rnL_beg (rs : List (List CT)) : rnL (rs.map begL) = runsF begL 0 rs := by
  have : ∀ (k : Nat) (a : List (List CT)), runsF id k (a.map begL) = runsF begL k a := by
    intro k a
    induction a generalizing k with
    | nil => rfl
    | cons x t ih => rw [List.map_cons, runsF, runsF, ih]; rfl
  exact this 0 rs
theorem rnL_pop (c : CT) : ∀ (k : Nat) (ls : List (List CT)), runsF id k (ls.map (ppL c)) = popA CT.cmp c (runsF id k ls)
  | _, [] => rfl
  | k, l :: t => by
    rw [List.map_cons, runsF, runsF, rnL_pop c (k + 1) t]
    unfold popA
    rw [List.filterMap_append]
    congr 1
    cases l with
    | nil => rfl
    | cons x u =>
      show (ofL (if CT.cmp x c = 0 then u else x :: u) k).toList = List.filterMap _ [(⟨x, u, k⟩ : Rn CT)]
      rw [List.filterMap_cons]
      unfold popR
      by_cases q : CT.cmp x c = 0
      · rw [if_pos q, if_pos q]
        cases u <;> rfl
      · rw [if_neg q, if_neg q]
        rfl
theorem rnL_sk (c : CT) : ∀ (k : Nat) (ls : List (List CT)), runsF id k (ls.map (drL c)) = skA CT.cmp c (runsF id k ls)
  | _, [] => rfl
  | k, l :: t => by
    rw [List.map_cons, runsF, runsF, rnL_sk c (k + 1) t]
    unfold skA
    rw [List.filterMap_append]
    congr 1
    cases l with
    | nil => rfl
    | cons x u =>
      show (ofL (drL c (x :: u)) k).toList = List.filterMap (skR CT.cmp c) [(⟨x, u, k⟩ : Rn CT)]
      have e : skR CT.cmp c ⟨x, u, k⟩ = ofL (drL c (x :: u)) k := rfl
      rw [List.filterMap_cons, e]
      cases ofL (drL c (x :: u)) k <;> rfl
theorem rnL_cnt : ∀ (k : Nat) (ls : List (List CT)), cntR (runsF id k ls) = cntL ls
  | _, [] => rfl
  | k, l :: t => by
    rw [runsF, cntR_app, rnL_cnt (k + 1) t]
    unfold cntL
    rw [List.map_cons, List.sum_cons]
    congr 1
    cases l with
    | nil => rfl
    | cons x u => show (u.length + 1) + 0 = (x :: u).length; rw [List.length_cons]
/-- The least run is the document's best one. -/
theorem best_is {ls : List (List CT)} {r : Rn CT} {t : List (Rn CT)} {j : Nat} {h : CT} {u : List CT} (hp : (rnL ls).Perm (r :: t)) (hl : ∀ x ∈ r :: t, leR CT.cmp r x) (hb : BestI ls ls.length (j : Int)) (hj : ls[j]? = some (h :: u)) : r.h = h ∧ r.i = j := by
  have hr : r ∈ rnL ls := hp.mem_iff.2 (List.mem_cons_self ..)
  obtain ⟨k, hk, hki⟩ := rnL_mem.1 hr
  have hx := hl ⟨h, u, j⟩ (hp.mem_iff.1 (rnL_mem.2 ⟨j, hj, rfl⟩))
  have hkl := (List.getElem?_eq_some_iff.1 hk).1
  rcases hb with ⟨e, _⟩ | ⟨j', h', t', e, _, h1, h2⟩
  · omega
  · obtain rfl : j = j' := by omega
    rw [hj] at h1
    cases h1
    have h3 := h2 k r.h r.t hkl hk
    have h4 := ct_c3.anti r.h h
    unfold leR at hx
    dsimp only at hx
    have h5 : r.i = j := by omega
    refine ⟨?_, h5⟩
    rw [← hki, h5, hj] at hk
    cases hk
    rfl
theorem best_no {ls : List (List CT)} (hb : BestI ls ls.length (-1)) : rnL ls = [] := by
  rcases hb with ⟨_, h⟩ | ⟨j, _, _, e, _⟩
  · cases hq : rnL ls with
    | nil => rfl
    | cons r t =>
      have hr : r ∈ rnL ls := by rw [hq]; simp
      obtain ⟨k, hk, _⟩ := rnL_mem.1 hr
      have hkl := (List.getElem?_eq_some_iff.1 hk).1
      rcases h k hkl with h | h <;> (rw [h] at hk; cases hk)
  · omega
/-- The document's Next as both tell it. -/
theorem rnext_both {B C rb n c0 : Nat} {A : Option Addr} {ls : List (List CT)} {ml : List CT} (w : World) (h : RM w B C rb A n c0 ls) (hs : ∀ l ∈ ls, ∀ d ∈ l, Sm d) (hn : n ≤ 1000) (hC : C ≤ w.heap.size) (hG : Gd (rnL ls)) (hm : MgO CT.cmp (rnL ls) ml) :
    Calls Tryd.prog 53 #[.pointer (some ⟨rb, 0, none⟩)] w fun e w' => (ml = [] ∧ rnL ls = [] ∧ e = .returned (.tuple #[(default : CT).v, .int .i64 0, .bool false]) ∧ Hid (RM w' B C rb A n c0 ls ∧ Mdl B C w w')) ∨
      (∃ (d : CT) (l : List CT) (j : Nat), ml = d :: l ∧ BestI ls ls.length (j : Int) ∧ (∃ u, ls[j]? = some (d :: u)) ∧ e = .returned (.tuple #[d.v, .int .i64 (j : Int), .bool true]) ∧ Hid (RM w' B C rb A n c0 (ls.map (ppL d)) ∧ Mdl B C w w' ∧ Gd (rnL (ls.map (ppL d))) ∧ MgO CT.cmp (rnL (ls.map (ppL d))) l)) := by
  have hlen := h.len
  refine (rnext_any w h hs hn hC).mono fun e w' hx => ?_
  rcases hx with ⟨h1, h2, h3⟩ | ⟨j, d, t, h1, h2, h3, h4⟩
  · rw [← hlen] at h1
    have h9 := best_no h1
    rw [h9] at hm
    exact .inl ⟨mgo_nil hm, h9, h2, h3⟩
  · rw [← hlen] at h1
    cases hq : rnL ls with
    | nil =>
      have : (⟨d, t, j⟩ : Rn CT) ∈ rnL ls := rnL_mem.2 ⟨j, h2, rfl⟩
      rw [hq] at this
      cases this
    | cons a tl =>
      obtain ⟨r, t', hp, hl⟩ := least_ex a tl
      rw [← hq] at hp
      have hG2 := hG.perm hp
      obtain ⟨l, rfl, hm'⟩ := mgo_uncons ct_c3 hl hG2.rise hG2.dst (mgo_perm hp hm)
      obtain ⟨e1, e2⟩ := best_is hp hl h1 h2
      rw [e1] at hm'
      refine .inr ⟨d, l, j, by rw [e1], h1, ⟨t, h2⟩, h3, h4.out.1, h4.out.2, ?_, ?_⟩
      · rw [show rnL (ls.map (ppL d)) = _ from rnL_pop d 0 ls]
        exact hG.pop d
      · rw [show rnL (ls.map (ppL d)) = _ from rnL_pop d 0 ls]
        exact mgo_perm (pop_perm hp).symm hm'
/-- The document's Next in one form. -/
def RNxU (w : World) (B C rb n c0 : Nat) (A : Option Addr) (ml : List CT) (e : Ending) (w' : World) : Prop := ∃ (d : CT) (k : Nat) (ok : Bool) (ls' : List (List CT)), e = .returned (.tuple #[d.v, .int .i64 (k : Int), .bool ok]) ∧ Hid (RM w' B C rb A n c0 ls' ∧ Mdl B C w w' ∧ Gd (rnL ls') ∧ (∀ l ∈ ls', ∀ d ∈ l, Sm d) ∧ (ok = false → ml = []) ∧ (ok = true → ∃ l, ml = d :: l ∧ MgO CT.cmp (rnL ls') l))
theorem pp_sub {c : CT} {ls : List (List CT)} (h : ∀ l ∈ ls, ∀ d ∈ l, Sm d) : ∀ l ∈ ls.map (ppL c), ∀ d ∈ l, Sm d := fun l hl d hd => by
  obtain ⟨m, hm, rfl⟩ := List.mem_map.1 hl
  cases m with
  | nil => cases hd
  | cons x u =>
    have hd : d ∈ (if CT.cmp x c = 0 then u else x :: u) := hd
    split at hd
    · exact h _ hm d (List.mem_cons_of_mem _ hd)
    · exact h _ hm d hd
theorem rnext_mu {B C rb n c0 : Nat} {A : Option Addr} {ls : List (List CT)} {ml : List CT} (w : World) (h : RM w B C rb A n c0 ls) (hs : ∀ l ∈ ls, ∀ d ∈ l, Sm d) (hn : n ≤ 1000) (hC : C ≤ w.heap.size) (hG : Gd (rnL ls)) (hm : MgO CT.cmp (rnL ls) ml) :
    Calls Tryd.prog 53 #[.pointer (some ⟨rb, 0, none⟩)] w fun e w' => RNxU w B C rb n c0 A ml e w' := by
  refine (rnext_both w h hs hn hC hG hm).mono fun e w' hx => ?_
  rcases hx with ⟨h1, h2, h3, h4⟩ | ⟨d, l, j, h1, _, _, h3, h4⟩
  · exact ⟨_, 0, false, ls, h3, h4.out.1, h4.out.2, hG, hs, fun _ => h1, fun e => (by cases e)⟩
  · exact ⟨d, j, true, _, h3, h4.out.1, h4.out.2.1, h4.out.2.2.1, pp_sub hs, fun e => (by cases e), fun _ => ⟨l, h1, h4.out.2.2.2⟩⟩
/-- Where the document's Merge is. -/
structure RgM (w W : World) (C rb n c0 : Nat) (A : Option Addr) (ls : List (List CT)) (va : Value) (acc : List CT) : Prop where
  rm : RM W w.heap.size C rb A n c0 ls
  row : CRow W C va acc
  be : Below w.heap.size w W
  cw : C ≤ W.heap.size
  wc : w.heap.size ≤ C
  gd : Gd (rnL ls)
  sm : ∀ l ∈ ls, ∀ d ∈ l, Sm d
theorem RgM.next {w W W2 : World} {C rb n c0 : Nat} {A : Option Addr} {ls ls2 : List (List CT)} {va : Value} {acc : List CT} (h : RgM w W C rb n c0 A ls va acc) (hr : RM W2 w.heap.size C rb A n c0 ls2) (hm : Mdl w.heap.size C W W2) (hg : Gd (rnL ls2)) (hs : ∀ l ∈ ls2, ∀ d ∈ l, Sm d) : RgM w W2 C rb n c0 A ls2 va acc :=
  ⟨hr, x_own0 h.row fun k hk => hm.block k (World.ownsRow.lt h.row k hk).2 (.inr (World.ownsRow.lt h.row k hk).1), h.be.trans (hm.below h.be.size), Nat.le_trans h.cw hm.size, h.wc, hg, hs⟩
theorem RgM.below {w W W2 : World} {C rb n c0 : Nat} {A : Option Addr} {ls : List (List CT)} {va : Value} {acc : List CT} (h : RgM w W C rb n c0 A ls va acc) (hb : Below W.heap.size W W2) : RgM w W2 C rb n c0 A ls va acc := h.next (h.rm.below hb) (Mdl.of hb) h.gd h.sm
theorem RM.low {w w' : World} {B C rb n c : Nat} {A : Option Addr} {ls : List (List CT)} (h : RM w B C rb A n c ls) (hrb : rb < C) (hb : Below C w w') : RM w' B C rb A n c ls :=
  ⟨h.lo, h.len, h.nc, (hb.block rb hrb).trans h.blk, fun h0 => by
    obtain ⟨g, cur, e, h1, h2, h3⟩ := h.row h0
    refine ⟨g, cur, e, h1, (hb.block g h1.2).trans h2, fun i l hl => ?_⟩
    obtain ⟨u, hu, he⟩ := h3 i l hl
    exact ⟨u, hu, he.1.stay9 fun b hb2 _ => hb.block b (he.2 b hb2).2.1, fun b hb2 => by
      obtain ⟨q1, q2, cu2, hc⟩ := he.2 b hb2
      exact ⟨q1, q2, cu2, (hb.block b q2).trans hc⟩⟩⟩

set_option maxRecDepth 100000 in
set_option maxHeartbeats 16000000 in
theorem rmerge_any (v : Value) (rs : List (List CT)) (w : World) (h : RsA w v rs) (hs : ∀ l ∈ rs, l.length ≤ 60 ∧ ∀ c ∈ l, Sm c) (hl : rs.length ≤ 12) {ml : List CT} (hm : MgO CT.cmp (runsF begL 0 rs) ml) (hml : ml.length ≤ 1000000) :
    Calls Tryd.prog 61 #[v] w fun e w' => ∃ v', e = .returned v' ∧ CRow w' w.heap.size v' ml ∧ Below w.heap.size w w' := by
  have mixed : Tryd.prog.follows .mixedOrders = true := by kernel_rfl
  have HNw := hid (rnew_any v rs w h hs hl)
  have HGd : Hid (Gd (rnL (rs.map begL))) := by show Gd _; rw [rnL_beg]; exact runs_gd (fun l hl => by have := (hs l hl).1; omega) (by omega)
  have HSm : Hid (∀ l ∈ rs.map begL, ∀ d ∈ l, Sm d) := fun l hl d hd => by
    obtain ⟨r, hr, rfl⟩ := List.mem_map.1 hl
    exact (hs r hr).2 d (List.mem_of_mem_take hd)
  have HM : Hid (MgO CT.cmp (rnL (rs.map begL)) ml) := by show MgO _ _ _; rw [rnL_beg]; exact hm
  have HMl := hid hml
  have hln : (rs.map begL).length ≤ 12 := by rw [List.length_map]; exact hl
  obtain ⟨L0, hL0⟩ : ∃ L, rs.map begL = L := ⟨_, rfl⟩
  rw [hL0] at HNw HGd HSm HM hln
  have HLn := hid hln
  clear h hs hl hm hml hL0 hln
  go_enter Tryd.func61, Tryd.ntmps61
  go_upto_region 2 with (first | (go_at_call 51; refine HNw.out.mono ?_; rintro e w1 ⟨rb, A, n, c0, rfl, hr1, hb1⟩))
  obtain ⟨C, hC⟩ : ∃ C, w1.heap.size = C := ⟨_, rfl⟩
  have HI0 : Hid (RgM w (w1.alloc (.cells #[] 28)) C rb n c0 A L0 (.slice (some ⟨w1.heap.size, 0, none⟩) 0 0) [] ∧ rb < C ∧ n ≤ 1000 ∧ MgO CT.cmp (rnL L0) ml) := by
    have hb := below_new w1 (.cells #[] 28)
    rw [hC] at hr1
    exact ⟨⟨hr1.below hb, by rw [← hC]; exact empty_crow w1 w1.heap.size (Nat.le_refl _), hb1.trans (hb.mono hb1.size), by rw [← hC]; exact hb.size, by rw [← hC]; exact hb1.size, HGd.out, HSm.out⟩, by rw [← hC]; exact hr1.blk.lt, by have := hr1.len; have := HLn.out; omega, HM.out⟩
  clear hr1 hb1 hC HNw HGd HSm HM HLn
  go_wp2
  go_loopw [4] (fun vo wr => ∃ (ls : List (List CT)) (acc rest : List CT), Hid (RgM w wr C rb n c0 A ls vo acc ∧ rb < C ∧ n ≤ 1000 ∧ MgO CT.cmp (rnL ls) rest ∧ ml = acc ++ rest)) (fun vo _ => ml.length - lenV9 vo)
  case atStart => exact ⟨L0, [], ml, HI0.out.1, HI0.out.2.1, HI0.out.2.2.1, HI0.out.2.2.2, rfl⟩
  case round =>
    clear HI0
    obtain ⟨ls, acc, rest, HI⟩ := hrel
    obtain ⟨Aa, ca, rfl, -⟩ := HI.out.1.row.len
    obtain ⟨na, hna⟩ : ∃ na, acc.length = na := ⟨_, rfl⟩
    have HNa := hid hna
    rw [hna] at HI ⊢
    clear hna
    have HNx := hid (rnext_mu wr HI.out.1.rm HI.out.1.sm HI.out.2.2.1 HI.out.1.cw HI.out.1.gd HI.out.2.2.2.1)
    go_upto_region 4 with (first | (go_at_call 53; refine HNx.out.mono ?_; rintro e w2 ⟨d, k, ok, ls2, rfl, HX⟩))
    have HI2 : Hid (RgM w w2 C rb n c0 A ls2 (.slice Aa na ca) acc) := HI.out.1.next HX.out.1 HX.out.2.1 HX.out.2.2.1 HX.out.2.2.2.1
    obtain ⟨cb, hcb⟩ : ∃ cb, w2.heap.size = cb := ⟨_, rfl⟩
    refine wp_lt9 (fun W => Hid (RgM w W C rb n c0 A ls2 (.slice Aa na ca) acc ∧ DW W cb d)) ?_ ?_
    · rw [← hcb]
      exact ⟨HI2.out.below (below_new w2 _), Blk.new w2 _ _⟩
    rw [hcb]
    clear hcb HI2 HNx
    rintro W3 HI3
    cases ok with
    | false =>
      go_wp2
      go_ret
      exact ⟨_, rfl, by rw [HI.out.2.2.2.2, HX.out.2.2.2.2.1 (by first | rfl | trivial), List.append_nil]; exact HI3.out.1.row.le HI3.out.1.wc, HI3.out.1.be⟩
    | true =>
      obtain ⟨c0', c1, c2, c3, c4, c5, c6, c7⟩ := HI3.out.2.words
      have HBn : Hid (Below W3.heap.size W3 (W3.alloc (.cells #[.string d.r, .string d.f, .string d.q, .int .i64 d.t, .int .i64 d.k, .int .i64 d.vk, .int .i64 d.vn, .string d.s] 28))) := below_new W3 _
      obtain ⟨l, hr, hmo⟩ := HX.out.2.2.2.2.2 (by first | rfl | trivial)
      have HL := hid (And.intro hr hmo)
      have HAc : Hid (acc.length ≤ 1000000) := by
        have h1 := congrArg List.length HI.out.2.2.2.2
        rw [List.length_append] at h1
        have := HMl.out
        show _ ≤ _
        omega
      clear hr hmo
      go_wp2_with (first | (at_builtin; refine wpList_append_cell9 rfl (.tmp 20) (.tmp 22) rfl _ C _ acc rfl (HI3.out.1.row.below HBn.out) _ 1 rfl d (cell_new9 d _) (by have := HAc.out; omega) (Nat.le_trans HI3.out.1.cw HBn.out.size) ?_; intro v2 w4 hr2 hg2 ho2; obtain ⟨A4, c4', rfl, -⟩ := hr2.len; have HE := hid (And.intro hr2 ((Below.refl C _).grown hg2 (Nat.le_trans HI3.out.1.cw HBn.out.size) fun k hk => (World.ownsRow.lt HI3.out.1.row k hk).1)); have HS4 := hid (And.intro hg2.size ho2); clear hr2 hg2 ho2))
      rw [show (acc ++ [d]).length = acc.length + 1 by simp] at HE
      go_roundw
      case rel =>
        have hz := HI3.out.1.below HBn.out
        refine ⟨ls2, acc ++ [d], l, ⟨⟨hz.rm.low HI.out.2.1 HE.out.2, HE.out.1, hz.be.trans (HE.out.2.mono hz.wc), Nat.le_trans hz.cw HE.out.2.size, hz.wc, hz.gd, hz.sm⟩, HI.out.2.1, HI.out.2.2.1, HL.out.2, ?_⟩⟩
        rw [HI.out.2.2.2.2, HL.out.1, List.append_assoc]
        rfl
      case measure =>
        have h1 := congrArg List.length HI.out.2.2.2.2
        rw [HL.out.1, List.length_append, List.length_cons] at h1
        have h3 := HNa.out
        simp only [lenV9]
        omega
end Go.Proofs.YtgfkobfkncpmoaaDoor

/- The document's Split. Conditions: the argument stands, a million cells at most. -/
namespace Go.Proofs.YtgfkobfkncpmoaaDoor
open Go.RowKit

set_option maxRecDepth 100000 in
set_option maxHeartbeats 8000000 in
theorem rsplit_any (v : Value) (l : List CT) (at9 : ByteArray) (hat : at9.size ≤ 9223372036854775807) (w : World) (h : ClA w v l) (hl : l.length ≤ 1000000) (hs : ∀ c ∈ l, c.r.size ≤ 9223372036854775807) :
    Calls Tryd.prog 60 #[v, .string at9] w fun e w' => SpE w at9 l e w' := by
  have mixed : Tryd.prog.follows .mixedOrders = true := by kernel_rfl
  obtain ⟨A, cap, rfl, hc1, hc2, hh⟩ := h
  have HH := hid hh
  obtain ⟨n, hn⟩ : ∃ n, l.length = n := ⟨_, rfl⟩
  have HN := hid hn
  rw [hn] at hc1 hl ⊢
  have HTx : Hid (∀ c ∈ l, ∀ W, Calls Tryd.prog 123 #[.string c.r, .string at9] W fun e w' => e = .returned (.int .i64 (Lib.compareBytes c.r.data.toList at9.data.toList)) ∧ Below W.heap.size W w') := fun c hc W => texts_any c.r at9 (hs c hc) hat W
  have H0 : Hid (SpM w ((w.alloc (.cells #[] 28)).alloc (.cells #[] 28)) (.slice (some ⟨w.heap.size, 0, none⟩) 0 0) (.slice (some ⟨w.heap.size + 1, 0, none⟩) 0 0) ((l.take 0).filter fun c => lowB at9 c) ((l.take 0).filter fun c => !lowB at9 c)) := by
    have b1 := below_new w (.cells #[] 28)
    have b2 := below_new (w.alloc (.cells #[] 28)) (.cells #[] 28)
    have e2 := empty_crow (w.alloc (.cells #[] 28)) w.heap.size b1.size
    rw [World.size_alloc] at e2
    refine ⟨(empty_crow w w.heap.size (Nat.le_refl _)).below b2, e2, fun k hk e => ?_, b1.trans (b2.mono b1.size)⟩
    injection hk with hk
    injection e with e
    have e1 : w.heap.size + 1 = k := e
    have e2 : w.heap.size = k := hk
    omega
  clear hh hn hs hat
  go_enter Tryd.func60, Tryd.ntmps60
  go_wp2
  go_loopw [6, 7, 8] (fun va vb vi wr => ∃ (i : Nat), i ≤ n ∧ vi = .int .i64 i ∧ Hid (SpM w wr va vb ((l.take i).filter fun c => lowB at9 c) ((l.take i).filter fun c => !lowB at9 c))) (fun _ _ vi _ => n - (intOf vi).toNat)
  case atStart => exact ⟨0, Nat.zero_le _, rfl, H0.out⟩
  case round =>
    clear H0
    obtain ⟨i, hi, rfl, HI⟩ := hrel
    obtain ⟨Aa, ca, rfl, -⟩ := HI.out.ra.len
    obtain ⟨Ab, cb, rfl, -⟩ := HI.out.rb.len
    by_cases hlt : i < n
    · have hltz : (i : Int) < (n : Int) := by omega
      have hil : i < l.length := by rw [HN.out]; exact hlt
      obtain ⟨b, off, rfl, hhc⟩ := HH.out (by omega)
      have hbw : b < w.heap.size := hhc.lt (by omega)
      obtain ⟨c, hc⟩ : ∃ c, l[i]? = some c := ⟨_, List.getElem?_eq_getElem hil⟩
      have HC := hid hc
      have HTc := hid (HTx.out c (List.mem_of_getElem? hc))
      have HP : Hid (∀ W, Below w.heap.size w W → W.cell? ⟨b, off + i * 8, none⟩ = some (.string c.r) ∧ W.cell? ⟨b, off + i * 8 + 1, none⟩ = some (.string c.f) ∧ W.cell? ⟨b, off + i * 8 + 2, none⟩ = some (.string c.q) ∧ W.cell? ⟨b, off + i * 8 + 3, none⟩ = some (.int .i64 c.t) ∧ W.cell? ⟨b, off + i * 8 + 4, none⟩ = some (.int .i64 c.k) ∧ W.cell? ⟨b, off + i * 8 + 5, none⟩ = some (.int .i64 c.vk) ∧ W.cell? ⟨b, off + i * 8 + 6, none⟩ = some (.int .i64 c.vn) ∧ W.cell? ⟨b, off + i * 8 + 7, none⟩ = some (.string c.s)) := fun W hW => ct_words (hhc.below hW hbw) i hc
      obtain ⟨x0, -⟩ := HP.out wr HI.out.be
      have hna : ((l.take i).filter fun c => lowB at9 c).length ≤ i := Nat.le_trans (List.length_filter_le _ _) (by rw [List.length_take]; omega)
      have hnb : ((l.take i).filter fun c => !lowB at9 c).length ≤ i := Nat.le_trans (List.length_filter_le _ _) (by rw [List.length_take]; omega)
      obtain ⟨a, ha⟩ : ∃ a, (l.take i).filter (fun c => lowB at9 c) = a := ⟨_, rfl⟩
      obtain ⟨d, hd⟩ : ∃ d, (l.take i).filter (fun c => !lowB at9 c) = d := ⟨_, rfl⟩
      have HA := hid ha
      have HD := hid hd
      rw [ha] at HI hna ⊢
      rw [hd] at HI hnb ⊢
      obtain ⟨na, hna2⟩ : ∃ na, a.length = na := ⟨_, rfl⟩
      obtain ⟨nb, hnb2⟩ : ∃ nb, d.length = nb := ⟨_, rfl⟩
      have HNa := hid hna2
      have HNb := hid hnb2
      rw [hna2] at HI hna ⊢
      rw [hnb2] at HI hnb ⊢
      obtain ⟨o, ho⟩ : ∃ o, Lib.compareBytes c.r.data.toList at9.data.toList = o := ⟨_, rfl⟩
      have HQ : Hid (lowB at9 c = decide (o < 0)) := by show lowB at9 c = _; rw [← ho]; rfl
      rw [ho] at HTc
      clear ha hd hna2 hnb2 hhc hc hil ho hbw
      by_cases hq : o < 0
      · have HQ1 : Hid (lowB at9 c = true) := by show _ = _; rw [HQ.out, decide_eq_true hq]
        go_upto_region 7 with (first | (go_at_call 123; refine (HTc.out _).mono ?_; rintro e w5 ⟨rfl, hb5⟩))
        have HI5 := hid (HI.out.below hb5)
        clear x0 hb5 HI
        obtain ⟨x0, x1, x2, x3, x4, x5, x6, x7⟩ := HP.out w5 HI5.out.be
        have HB2 : Hid (Below w5.heap.size w5 (w5.alloc (.cells #[.string c.r, .string c.f, .string c.q, .int .i64 c.t, .int .i64 c.k, .int .i64 c.vk, .int .i64 c.vn, .string c.s] 28))) := below_new w5 _
        go_upto_region 5 with (first | (at_builtin; refine wpList_append_cell9 rfl (.tmp 25) (.tmp 30) rfl _ w.heap.size _ a rfl (HI5.out.ra.below HB2.out) _ 1 rfl c (cell_new9 c _) (by rw [HNa.out]; omega) (Nat.le_trans HI5.out.be.size HB2.out.size) ?_; intro v2 w2 hr2 hg2 ho2; have HE := hid (HI5.out.moreA HB2.out hr2 hg2 ho2); clear hr2 hg2 ho2))
        go_wp2
        go_roundw
        case rel => exact ⟨i + 1, by omega, by go_num, by show SpM _ _ _ _ _ _; rw [filt_snoc HC.out, if_pos HQ1.out, filt_snoc HC.out, if_neg (by rw [HQ1.out]; simp), HA.out, HD.out]; exact HE.out⟩
        case measure => simp [intOf]; omega
      · have HQ1 : Hid (lowB at9 c = false) := by show _ = _; rw [HQ.out, decide_eq_false hq]
        go_upto_region 8 with (first | (go_at_call 123; refine (HTc.out _).mono ?_; rintro e w5 ⟨rfl, hb5⟩))
        have HI5 := hid (HI.out.below hb5)
        clear x0 hb5 HI
        obtain ⟨x0, x1, x2, x3, x4, x5, x6, x7⟩ := HP.out w5 HI5.out.be
        have HB2 : Hid (Below w5.heap.size w5 (w5.alloc (.cells #[.string c.r, .string c.f, .string c.q, .int .i64 c.t, .int .i64 c.k, .int .i64 c.vk, .int .i64 c.vn, .string c.s] 28))) := below_new w5 _
        go_upto_region 5 with (first | (at_builtin; refine wpList_append_cell9 rfl (.tmp 32) (.tmp 37) rfl _ w.heap.size _ d rfl (HI5.out.rb.below HB2.out) _ 1 rfl c (cell_new9 c _) (by rw [HNb.out]; omega) (Nat.le_trans HI5.out.be.size HB2.out.size) ?_; intro v2 w2 hr2 hg2 ho2; have HE := hid (HI5.out.moreB HB2.out hr2 hg2 ho2); clear hr2 hg2 ho2))
        go_wp2
        go_roundw
        case rel => exact ⟨i + 1, by omega, by go_num, by show SpM _ _ _ _ _ _; rw [filt_snoc HC.out, if_neg (by rw [HQ1.out]; simp), filt_snoc HC.out, if_pos (by rw [HQ1.out]; rfl), HA.out, HD.out]; exact HE.out⟩
        case measure => simp [intOf]; omega
    · obtain rfl : i = n := by omega
      have HZ : Hid (SpM w wr (.slice Aa ((l.take i).filter fun c => lowB at9 c).length ca) (.slice Ab ((l.take i).filter fun c => !lowB at9 c).length cb) (l.filter fun c => lowB at9 c) (l.filter fun c => !lowB at9 c)) := by
        have := HI.out
        rw [← HN.out] at this ⊢
        rw [List.take_length] at this ⊢
        exact this
      go_wp2
      go_ret2
      exact ⟨_, _, rfl, HZ.out⟩
end Go.Proofs.YtgfkobfkncpmoaaDoor

/- MergeCalls: every row of Nexts and Skips is answered as the document says; runs are left as they were. Conditions: the arguments stand, their numbers are of 64 bits; the tables of utf8 read as they are laid. -/
namespace Go.Proofs.YtgfkobfkncpmoaaDoor
open Go.RowKit

/-- Both mergers: what they tell is the same. -/
structure CcM (w W : World) (B1 G1 mb C2 rb n c0 : Nat) (A : Option Addr) (H : List (Rn CT)) (ls : List (List CT)) : Prop where
  ms : MgS W B1 G1 G1 mb H
  rm : RM W G1 C2 rb A n c0 ls
  pe : H.Perm (rnL ls)
  gd : Gd H
  sm : ∀ l ∈ ls, ∀ d ∈ l, Sm d
  be : Below B1 w W
  cw : C2 ≤ W.heap.size
  n9 : n ≤ 1000
  l9 : ∀ l ∈ ls, l.length ≤ 1000
theorem RM.kept {w w' : World} {B C rb n c : Nat} {A : Option Addr} {ls : List (List CT)} (h : RM w B C rb A n c ls) {B1 G1 : Nat} (hm : Mdl B1 G1 w w') (hB : G1 ≤ B) : RM w' B C rb A n c ls := h.keep fun k hk hlt => hm.block k hlt (.inr (Nat.le_trans hB hk))
theorem CcM.below {w W W2 : World} {B1 G1 mb C2 rb n c0 : Nat} {A : Option Addr} {H : List (Rn CT)} {ls : List (List CT)} (h : CcM w W B1 G1 mb C2 rb n c0 A H ls) (hB : B1 ≤ W.heap.size) (hb : Below W.heap.size W W2) : CcM w W2 B1 G1 mb C2 rb n c0 A H ls :=
  ⟨h.ms.below hb, h.rm.below hb, h.pe, h.gd, h.sm, h.be.trans (hb.mono hB), Nat.le_trans h.cw hb.size, h.n9, h.l9⟩
theorem MgS.permH {W : World} {B G C mb : Nat} {H K : List (Rn CT)} (h : MgS W B G C mb H) (hp : H.Perm K) : MgS W B G C mb K := by
  obtain ⟨h1, h2, h3⟩ := h
  refine ⟨h1, h2, ?_⟩
  rcases h3 with ⟨rfl, h3⟩ | ⟨g, cap, x, l, hg, h4, h5, h6⟩
  · exact .inl ⟨List.nil_perm.1 hp, h3⟩
  · exact .inr ⟨g, cap, x, l, hg, h4, h5.trans hp, h6⟩
/-- Next of both. -/
theorem next_one {w W : World} {B1 G1 mb C2 rb n c0 : Nat} {A : Option Addr} {H : List (Rn CT)} {ls : List (List CT)} (h : CcM w W B1 G1 mb C2 rb n c0 A H ls) : ∃ (d : CT) (k : Nat) (ok : Bool) (H2 : List (Rn CT)) (ls2 : List (List CT)), H2.Perm (rnL ls2) ∧ Gd H2 ∧ (∀ l ∈ ls2, ∀ d ∈ l, Sm d) ∧ (∀ l ∈ ls2, l.length ≤ 1000) ∧
    (∀ W', MgS W' B1 G1 G1 mb H → G1 ≤ W'.heap.size → Calls Tryd.prog 52 #[.pointer (some ⟨mb, 0, none⟩)] W' fun e w' => e = .returned (.tuple #[d.v, .int .i64 (k : Int), .bool ok]) ∧ MgS w' B1 G1 G1 mb H2 ∧ Mdl B1 G1 W' w') ∧
    (∀ W', RM W' G1 C2 rb A n c0 ls → C2 ≤ W'.heap.size → Calls Tryd.prog 53 #[.pointer (some ⟨rb, 0, none⟩)] W' fun e w' => e = .returned (.tuple #[d.v, .int .i64 (k : Int), .bool ok]) ∧ RM w' G1 C2 rb A n c0 ls2 ∧ Mdl G1 C2 W' w') := by
  obtain ⟨ml, hm⟩ := mgo_ex _ H (Nat.le_refl _) h.gd.rise h.gd.dst
  have hgl := h.gd.perm h.pe
  have hml := mgo_perm h.pe hm
  cases ml with
  | nil =>
    have hH : H = [] := by
      cases H with
      | nil => rfl
      | cons a t =>
        obtain ⟨r, t', hp, hl⟩ := least_ex a t
        have hg := h.gd.perm hp
        obtain ⟨l, e, _⟩ := mgo_uncons ct_c3 hl hg.rise hg.dst (mgo_perm hp hm)
        cases e
    subst hH
    refine ⟨default, 0, false, [], ls, h.pe, h.gd, h.sm, h.l9, fun W' hs hG => ?_, fun W' hr hC => ?_⟩
    · exact (next_mg W' hs h.gd hm hG).mono fun e w' ⟨h1, h2, h3, _⟩ => ⟨h1, h2, h3⟩
    · refine (rnext_both W' hr h.sm h.n9 hC hgl hml).mono fun e w' hx => ?_
      rcases hx with ⟨_, _, h3, h4⟩ | ⟨d, l, j, h1, _⟩
      · exact ⟨h3, h4.out⟩
      · cases h1
  | cons d l =>
    have hne : rnL ls ≠ [] := fun e => by
      rw [e] at hml
      have := mgo_nil hml
      cases this
    obtain ⟨a, tl, hq⟩ : ∃ a tl, rnL ls = a :: tl := by
      cases hq : rnL ls with
      | nil => exact absurd hq hne
      | cons a tl => exact ⟨a, tl, rfl⟩
    obtain ⟨r, t', hp, hl⟩ := least_ex a tl
    rw [← hq] at hp
    have hgr := hgl.perm hp
    obtain ⟨l', e, hm'⟩ := mgo_uncons ct_c3 hl hgr.rise hgr.dst (mgo_perm hp hml)
    injection e with e1 e2
    subst e1 e2
    have uniq : ∀ (r2 : Rn CT) (t2 : List (Rn CT)), H.Perm (r2 :: t2) → (∀ x ∈ r2 :: t2, leR CT.cmp r2 x) → r2 = r := fun r2 t2 hp2 hl2 => by
      have m1 : r2 ∈ r :: t' := (h.pe.trans hp).mem_iff.1 (hp2.mem_iff.2 (List.mem_cons_self ..))
      have m2 : r ∈ r2 :: t2 := hp2.mem_iff.1 ((h.pe.trans hp).mem_iff.2 (List.mem_cons_self ..))
      have l1 := hl r2 m1
      have l2 := hl2 r m2
      have a1 := ct_c3.anti r.h r2.h
      unfold leR at l1 l2
      rcases List.mem_cons.1 m1 with e | m
      · exact e
      · have := (List.pairwise_cons.1 hgr.dst).1 r2 m
        omega
    refine ⟨r.h, r.i, true, popA CT.cmp r.h H, ls.map (ppL r.h), ?_, h.gd.pop _, pp_sub h.sm, fun l hl => ?_, fun W' hs hG => ?_, fun W' hr hC => ?_⟩
    · rw [show rnL (ls.map (ppL r.h)) = _ from rnL_pop r.h 0 ls]
      exact pop_perm h.pe
    · obtain ⟨m, hm9, rfl⟩ := List.mem_map.1 hl
      have h1 := h.l9 m hm9
      cases m with
      | nil => exact h1
      | cons x u =>
        show (if CT.cmp x r.h = 0 then u else x :: u).length ≤ _
        split
        · rw [List.length_cons] at h1; omega
        · exact h1
    · refine (next_mg W' hs h.gd hm hG).mono fun e w' ⟨r2, t2, hp2, hl2, hr2, h1, h2, h3, _⟩ => ?_
      obtain rfl := uniq r2 t2 hp2 hl2
      exact ⟨h1, h2.permH (pop_perm hp2).symm, h3⟩
    · refine (rnext_both W' hr h.sm h.n9 hC hgl hml).mono fun e w' hx => ?_
      rcases hx with ⟨h1, _⟩ | ⟨d, l, j, h1, hb, ⟨u, hu⟩, h3, h4⟩
      · cases h1
      · injection h1 with h1 _
        obtain ⟨e1, e2⟩ := best_is hp hl hb hu
        rw [← h1] at h3 h4
        exact ⟨by rw [h3, e2], h4.out.1, h4.out.2.1⟩
end Go.Proofs.YtgfkobfkncpmoaaDoor

/- MergeCalls: every row of Nexts and Skips is answered as the document says; runs are left as they were. Conditions: the arguments stand, their numbers are of 64 bits; the tables of utf8 read as they are laid. -/
namespace Go.Proofs.YtgfkobfkncpmoaaDoor
open Go.RowKit

/-- Where the law is between two rows of calls: both mergers, the cell that the one told, the cell that the other one told. -/
theorem CcM.next {w W W2 : World} {B1 G1 mb C2 rb n c0 : Nat} {A : Option Addr} {H H2 : List (Rn CT)} {ls ls2 : List (List CT)} (h : CcM w W B1 G1 mb C2 rb n c0 A H ls) (hs : MgS W2 B1 G1 G1 mb H2) (hr : RM W2 G1 C2 rb A n c0 ls2) (hp : H2.Perm (rnL ls2)) (hg : Gd H2) (hsm : ∀ l ∈ ls2, ∀ d ∈ l, Sm d) (hl9 : ∀ l ∈ ls2, l.length ≤ 1000) (hb : Below B1 W W2) : CcM w W2 B1 G1 mb C2 rb n c0 A H2 ls2 :=
  ⟨hs, hr, hp, hg, hsm, h.be.trans hb, Nat.le_trans h.cw hb.size, h.n9, hl9⟩
theorem mid_low {B G : Nat} {w w' : World} (h : Mdl B G w w') (B1 : Nat) (hB : B1 ≤ B) (hs : B ≤ w.heap.size) : Below B1 w w' := (h.below hs).mono hB
theorem MgS.over {W W2 : World} {B G mb B2 G2 : Nat} {H : List (Rn CT)} (h : MgS W B G G mb H) (hm : Mdl B2 G2 W W2) (hG : G ≤ B2) (hs : B2 ≤ W.heap.size) : MgS W2 B G G mb H := h.kept ((hm.below hs).mono hG) (Nat.le_refl _)
theorem drL_sm {c : CT} {ls : List (List CT)} (h : ∀ l ∈ ls, ∀ d ∈ l, Sm d) : ∀ l ∈ ls.map (drL c), ∀ d ∈ l, Sm d := fun l hl d hd => by
  obtain ⟨m, hm, rfl⟩ := List.mem_map.1 hl
  exact h m hm d ((List.dropWhile_sublist _).subset hd)
theorem drL_len {c : CT} {ls : List (List CT)} (h : ∀ l ∈ ls, l.length ≤ 1000) : ∀ l ∈ ls.map (drL c), l.length ≤ 1000 := fun l hl => by
  obtain ⟨m, hm, rfl⟩ := List.mem_map.1 hl
  exact Nat.le_trans (List.dropWhile_sublist _).length_le (h m hm)
theorem left_same {H : List (Rn CT)} {ls : List (List CT)} (h : H.Perm (rnL ls)) : (cntR H : Int) = (cntL ls : Int) := by rw [cntR_perm h, show cntR (rnL ls) = cntL ls from rnL_cnt 0 ls]
/-- Left of both. -/
theorem left_one {w W : World} {B1 G1 mb C2 rb n c0 : Nat} {A : Option Addr} {H : List (Rn CT)} {ls : List (List CT)} (h : CcM w W B1 G1 mb C2 rb n c0 A H ls) : ∃ q : Int, (∀ W', Below W.heap.size W W' → Calls Tryd.prog 54 #[.pointer (some ⟨mb, 0, none⟩)] W' fun e w' => e = .returned (.int .i64 q) ∧ w' = W') ∧ ∀ W', Below W.heap.size W W' → Calls Tryd.prog 55 #[.pointer (some ⟨rb, 0, none⟩)] W' fun e w' => e = .returned (.int .i64 q) ∧ w' = W' :=
  ⟨cntR H, fun W' hb => left_mg (h.ms.below hb), fun W' hb => by rw [left_same h.pe]; exact rleft_any W' (h.rm.below hb) h.n9 h.l9⟩
/-- Skip of both. -/
theorem skip_one {w W : World} {B1 G1 mb C2 rb n c0 : Nat} {A : Option Addr} {H : List (Rn CT)} {ls : List (List CT)} (h : CcM w W B1 G1 mb C2 rb n c0 A H ls) (c : CT) (hc : Sm c) (hG : G1 ≤ C2) (hB : B1 ≤ G1) :
    Calls Tryd.prog 56 #[.pointer (some ⟨mb, 0, none⟩), c.v] W fun e w' => e = .returned (.tuple #[]) ∧ Hid (Below B1 W w' ∧
      Calls Tryd.prog 57 #[.pointer (some ⟨rb, 0, none⟩), c.v] w' fun e w'' => e = .returned (.tuple #[]) ∧ Hid (Below B1 w' w'' ∧ CcM w w'' B1 G1 mb C2 rb n c0 A (skA CT.cmp c H) (ls.map (drL c)))) := by
  have hW := h.cw
  refine (skip_mg c W h.ms h.gd).mono ?_
  rintro e w5 ⟨rfl, hS, hM⟩
  have hb5 := hM.below (show B1 ≤ W.heap.size by omega)
  refine ⟨rfl, hb5, (rskip_any c hc w5 (h.rm.kept hM (Nat.le_refl _)) h.sm h.n9).mono ?_⟩
  rintro e w6 ⟨rfl, h6⟩
  obtain ⟨hR, hM6⟩ := h6.out
  have hs5 : G1 ≤ w5.heap.size := by have := hb5.size; omega
  have hb6 := mid_low hM6 B1 hB hs5
  refine ⟨rfl, hb6, h.next (hS.over hM6 (Nat.le_refl _) hs5) hR ?_ (h.gd.sk c) (drL_sm h.sm) (drL_len h.l9) (hb5.trans hb6)⟩
  rw [show rnL (ls.map (drL c)) = _ from rnL_sk c 0 ls]
  exact sk_perm h.pe
/-- Next of both, one behind the other; each cell is laid. -/
theorem next_two {w W : World} {B1 G1 mb C2 rb n c0 : Nat} {A : Option Addr} {H : List (Rn CT)} {ls : List (List CT)} (h : CcM w W B1 G1 mb C2 rb n c0 A H ls) (hG : G1 ≤ C2) (hB : B1 ≤ G1) : ∃ (d : CT) (k : Nat) (ok : Bool),
    Calls Tryd.prog 52 #[.pointer (some ⟨mb, 0, none⟩)] W fun e w5 => e = .returned (.tuple #[d.v, .int .i64 (k : Int), .bool ok]) ∧ Hid (Below B1 W w5 ∧ B1 ≤ w5.heap.size ∧
      ∀ w6, Below w5.heap.size w5 w6 → Calls Tryd.prog 53 #[.pointer (some ⟨rb, 0, none⟩)] w6 fun e w7 => e = .returned (.tuple #[d.v, .int .i64 (k : Int), .bool ok]) ∧ Hid (Mdl G1 C2 w6 w7 ∧ C2 ≤ w5.heap.size ∧ ∃ H2 ls2, CcM w w7 B1 G1 mb C2 rb n c0 A H2 ls2)) := by
  have hW := h.cw
  obtain ⟨d, k, ok, H2, ls2, hp, hg, hs, hl9, hN1, hN2⟩ := next_one h
  refine ⟨d, k, ok, (hN1 W h.ms (by omega)).mono ?_⟩
  rintro e w5 ⟨rfl, hS, hM⟩
  have hb5 := hM.below (show B1 ≤ W.heap.size by omega)
  have hz := hb5.size
  refine ⟨rfl, hb5, by omega, fun w6 hb6 => ?_⟩
  refine (hN2 w6 ((h.rm.kept hM (Nat.le_refl _)).below hb6) (by have := hb6.size; omega)).mono ?_
  rintro e w7 ⟨rfl, hR, hM7⟩
  have hs6 : G1 ≤ w6.heap.size := by have := hb6.size; omega
  exact ⟨rfl, hM7, by omega, H2, ls2, h.next ((hS.below hb6).over hM7 (Nat.le_refl _) hs6) hR hp hg hs hl9 ((hb5.trans (hb6.mono (by omega))).trans (mid_low hM7 B1 hB hs6))⟩

theorem mgo_len : ∀ (k : Nat) (H : List (Rn CT)) (ml : List CT), cntR H ≤ k → (∀ r ∈ H, Rise CT.cmp r) → Dst H → MgO CT.cmp H ml → ml.length ≤ cntR H := by
  intro k
  induction k with
  | zero =>
    intro H ml h0 _ _ hm
    cases H with
    | nil => rw [mgo_nil hm]; exact Nat.zero_le _
    | cons a t => rw [cntR_cons] at h0; have : 0 < a.cs.length := by show 0 < _ + 1; omega
                  omega
  | succ k ih =>
    intro H ml h0 hR hD hm
    cases H with
    | nil => rw [mgo_nil hm]; exact Nat.zero_le _
    | cons a t =>
      obtain ⟨r, t', hp, hl⟩ := least_ex a t
      have hR2 : ∀ x ∈ r :: t', Rise CT.cmp x := fun x hx => hR x (hp.mem_iff.2 hx)
      obtain ⟨l', rfl, hm'⟩ := mgo_uncons ct_c3 hl hR2 (dst_perm hp hD) (mgo_perm hp hm)
      have h1 := cntR_pop_lt (r := r) (t := t')
      rw [← cntR_perm hp] at h1
      have := ih _ l' (by omega) (pop_rise hR2) (pop_dst (dst_perm hp hD)) hm'
      rw [List.length_cons]
      omega
theorem runs_cnt60 (k : Nat) (a : List (List CT)) : (∀ l ∈ a, l.length ≤ 60) → cntR (runsF begL k a) ≤ a.length * 60 := by
  induction a generalizing k with
  | nil => exact fun _ => Nat.le_refl _
  | cons x t ih =>
    intro ha
    have t1 := ih (k + 1) fun l hl => ha l (List.mem_cons_of_mem _ hl)
    rw [runsF, List.length_cons, cntR_app]
    have hx : (begL x).length ≤ 60 := by
      show (x.take (begI x)).length ≤ _
      rw [List.length_take]
      have := ha x (List.mem_cons_self ..)
      omega
    have t2 : cntR (ofL (begL x) k).toList ≤ (begL x).length := by
      cases begL x with
      | nil => exact Nat.le_refl _
      | cons c u => show (u.length + 1) + 0 ≤ _; rw [List.length_cons]; omega
    omega
/-- What runs tell, whatever they are. -/
theorem told_any {rs : List (List CT)} (h : ∀ l ∈ rs, l.length ≤ 60 ∧ ∀ c ∈ l, Sm c) (hl : rs.length ≤ 12) : ∃ ml, MgO CT.cmp (runsF begL 0 rs) ml ∧ ml.length ≤ 720 ∧ ∀ c ∈ ml, Sm c := by
  obtain ⟨ml, hm⟩ := mgr_ex (rs := rs) (fun l hl => by have := (h l hl).1; omega) (by omega)
  have hg := runs_gd (rs := rs) (fun l hl => by have := (h l hl).1; omega) (by omega)
  refine ⟨ml, hm, ?_, fun c hc => ?_⟩
  · have h1 := mgo_len _ _ ml (Nat.le_refl _) hg.rise hg.dst hm
    have h2 := runs_cnt60 0 rs fun l hl => (h l hl).1
    omega
  · obtain ⟨r, hr, hd, _⟩ := (hm.mem c).1 hc
    obtain ⟨j, l, hj, hb, _⟩ := (runsF_mem begL 0 rs r).1 hr
    rw [← hb] at hd
    exact (h l (List.mem_of_getElem? hj)).2 c (List.mem_of_mem_take hd)
section
variable {W0 W W' : World} {g o b p : Nat} {u v : Value}
abbrev TwW (W0 : World) (g o b p : Nat) (u v : Value) (W : World) : Prop := Hid (Below W0.heap.size W0 W ∧ g < W0.heap.size ∧ b < W0.heap.size) ∧ W.cell? ⟨g, o, none⟩ = some u ∧ W.cell? ⟨b, p, none⟩ = some v
theorem tww_call (hh : TwW W0 g o b p u v W) (hb : Below W.heap.size W W') : TwW W0 g o b p u v W' := by
  obtain ⟨hh, a0, b0⟩ := hh
  obtain ⟨hbw, h1, h2⟩ := hh.out
  have hz := hbw.size
  exact ⟨hid ⟨hbw.trans (hb.mono hz), h1, h2⟩, (hb.cell (p := ⟨g, o, none⟩) (show g < W.heap.size by omega)).trans a0, (hb.cell (p := ⟨b, p, none⟩) (show b < W.heap.size by omega)).trans b0⟩
theorem tww_drew (hh : TwW W0 g o b p u v W) : TwW W0 g o b p u v W.drew := tww_call hh (Below.refl _ _).drew
end

set_option maxHeartbeats 16000000 in
set_option maxRecDepth 100000 in
theorem mcalls_any (v vs : Value) (rs : List (List CT)) (sk : List CT) (row : ByteArray) (w : World) (h : RsA w v rs) (hv : ∀ l ∈ rs, ∀ c ∈ l, inI c.vn) (hk : ClA w vs sk) (hkv : ∀ c ∈ sk, inI c.vn) (hrow : row.size ≤ 9223372036854775807) (hL : LaidU w) :
    Calls Tryd.prog 9 #[v, vs, .string row] w fun e w' => e = .returned (.bool true) ∧ Below w.heap.size w w' := by
  have mixed : Tryd.prog.follows .mixedOrders = true := by kernel_rfl
  have HAl := hid (alive10_any w hL)
  have HGr : Hid (∀ W, Below w.heap.size w W → Calls Tryd.prog 49 #[v] W fun e w' => e = .returned (.bool (greatB rs)) ∧ Below W.heap.size W w') := fun W hW => great10_any v rs W (h.below hW)
  have HLo : Hid (∀ W, Below w.heap.size w W → Calls Tryd.prog 32 #[vs, .int .i64 60] W fun e w' => e = .returned (.bool (longM 60 sk)) ∧ Below W.heap.size W w') := fun W hW => longcells_at 60 vs sk W (hk.below hW)
  have HH := hid h
  have HK := hid hk
  have HL := hid hL
  have HV := hid (And.intro hv hkv)
  obtain ⟨A0, c0, rfl, -, -, hh⟩ := h
  have HH3 := hid hh
  obtain ⟨A1, c1, rfl, -, -, hh1⟩ := hk
  have HK3 := hid hh1
  obtain ⟨N, hN⟩ : ∃ N, rs.length = N := ⟨_, rfl⟩
  have HN := hid hN
  obtain ⟨S, hS⟩ : ∃ S, sk.length = S := ⟨_, rfl⟩
  have HS := hid hS
  rw [hN] at HGr HH ⊢
  rw [hS] at HLo HK ⊢
  clear hv hkv hL hN hS hh hh1
  go_enter Tryd.func9, Tryd.ntmps9
  go_upto_region 3 with (first | (go_at_call 48; refine HAl.out.mono ?_; rintro e w1 ⟨rfl, hb1⟩))
  have HB1 := hid hb1
  have HGr1 := hid (HGr.out w1 hb1)
  have HLo1 : Hid (∀ W, Below w1.heap.size w1 W → Calls Tryd.prog 32 #[.slice A1 S c1, .int .i64 60] W fun e w' => e = .returned (.bool (longM 60 sk)) ∧ Below W.heap.size W w') := fun W hW => HLo.out W (hb1.trans (hW.mono hb1.size))
  clear hb1 HAl HGr HLo
  cases hg : greatB rs with
  | true =>
    rw [hg] at HGr1
    go_wp2_with (first | (go_at_call 49; refine HGr1.out.mono ?_; rintro e w2 ⟨rfl, hb2⟩))
    go_ret
    exact ⟨rfl, HB1.out.trans (hb2.mono HB1.out.size)⟩
  | false =>
    have HSm := hid (great_ok10 hg HV.out.1)
    rw [hg] at HGr1
    clear hg
    have HSk : Hid (longM 60 sk = false → S ≤ 60 ∧ ∀ c ∈ sk, Sm c) := fun e => by
      have h1 := longM_ok e HV.out.2
      rw [HS.out] at h1
      exact h1
    obtain ⟨lg, hlg⟩ : ∃ lg, longM 60 sk = lg := ⟨_, rfl⟩
    rw [hlg] at HLo1 HSk
    clear hlg HV
    cases lg with
    | true =>
      go_wp2_with (first
        | (go_at_call 49; refine HGr1.out.mono ?_; rintro e w2 ⟨rfl, hb2⟩)
        | (go_at_call 32; refine (HLo1.out _ hb2).mono ?_; rintro e w3 ⟨rfl, hb3⟩))
      go_ret
      exact ⟨rfl, HB1.out.trans ((hb2.trans (hb3.mono hb2.size)).mono HB1.out.size)⟩
    | false =>
      have HSk2 := hid (HSk.out rfl)
      clear HSk
      by_cases hrw : (100 : Int) < (row.size : Int)
      · go_wp2_with (first
          | (go_at_call 49; refine HGr1.out.mono ?_; rintro e w2 ⟨rfl, hb2⟩)
          | (go_at_call 32; refine (HLo1.out _ hb2).mono ?_; rintro e w3 ⟨rfl, hb3⟩))
        go_ret
        exact ⟨rfl, HB1.out.trans ((hb2.trans (hb3.mono hb2.size)).mono HB1.out.size)⟩
      · go_upto_region 5 with (first
          | (go_at_call 49; refine HGr1.out.mono ?_; rintro e w2 ⟨rfl, hb2⟩)
          | (go_at_call 32; refine (HLo1.out _ hb2).mono ?_; rintro e w3 ⟨rfl, hb3⟩))
        have HB3 := hid (HB1.out.trans ((hb2.trans (hb3.mono hb2.size)).mono HB1.out.size))
        have hE := empty_qrow w3 w3.heap.size (Nat.le_refl _)
        have hbE := below_new w3 (.cells #[] 39)
        have HE : Hid (QRow (w3.alloc (.cells #[] 39)) w3.heap.size (.slice (some ⟨w3.heap.size, 0, none⟩) 0 0) (rs.take 0) ∧ Below w3.heap.size w3 (w3.alloc (.cells #[] 39))) := ⟨hE, hbE⟩
        have HSo : Hid (∀ (u : Value) (r : List CT) (W : World), ClA W u r → r ∈ rs → Calls Tryd.prog 27 #[u] W fun e w' => ∃ v', e = .returned v' ∧ CRow w' W.heap.size v' r ∧ Below W.heap.size W w') := fun u r W hW hr => by
          have h1 := HSm.out.2 r hr
          exact copycells_any u r (by omega) W hW
        clear hb2 hb3 HB1 HGr1 HLo1 hE hbE
        go_wp2
        go_loopw [7, 8] (fun vr vi wr => ∃ i g c : Nat, i ≤ N ∧ vi = .int .i64 i ∧ vr = .slice (some ⟨g, 0, none⟩) i c ∧ Hid (QRow wr w3.heap.size (.slice (some ⟨g, 0, none⟩) i c) (rs.take i) ∧ Below w3.heap.size w3 wr)) (fun _ vi _ => N - (intOf vi).toNat)
        case atStart => exact ⟨0, _, _, Nat.zero_le _, rfl, rfl, HE.out⟩
        case round =>
          clear HE
          obtain ⟨i, gr, cr, hi, rfl, rfl, HI⟩ := hrel
          by_cases hlt : i < N
          · have hltz : (i : Int) < (N : Int) := by omega
            have hil : i < rs.length := by rw [HN.out]; exact hlt
            obtain ⟨bb, off, rfl, hhc⟩ := HH3.out (by omega)
            obtain ⟨r, hr⟩ : ∃ r, rs[i]? = some r := ⟨_, List.getElem?_eq_getElem hil⟩
            obtain ⟨u, hu, hcl⟩ := hhc i r hr
            have hbw := HB3.out.trans (HI.out.2.mono HB3.out.size)
            have x0 := (hbw.cell (p := ⟨bb, off + i, none⟩) (cell_lt hu)).trans hu
            have HSr := hid (HSo.out u r wr (hcl.below hbw) (List.mem_of_getElem? hr))
            have HTk : Hid (rs.take (i + 1) = rs.take i ++ [r]) := by show _ = _; rw [List.take_add_one, hr]; rfl
            have hN12 : N ≤ 12 := by have := HSm.out.1; rw [HN.out] at this; exact this
            have hql : (rs.take i).length = i := by rw [List.length_take]; omega
            have HQl := hid hql
            obtain ⟨Au, cu, rfl, -⟩ := hcl
            obtain ⟨nr, hnr⟩ : ∃ nr, r.length = nr := ⟨_, rfl⟩
            rw [hnr] at x0 HSr
            clear hr hu hnr hil hhc hbw hql
            go_upto_region 8 with (first
              | (go_at_call 27; refine HSr.out.mono ?_; rintro e w5 ⟨v5, rfl, hr5, hb5⟩; obtain ⟨A5, c5, rfl, -⟩ := hr5.len; have HQ5 := hid (And.intro (HI.out.1.below hb5) (And.intro hr5 hb5)); clear hr5 hb5)
              | (at_builtin; refine wpList_append_part9 rfl (.tmp 44) (.tmp 50) rfl _ w3.heap.size _ (rs.take i) rfl (HQ5.out.1.below (below_new w5 (.cells #[.slice A5 r.length c5] 39))) w5.heap.size 1 (.slice A5 r.length c5) r rfl ((Blk.new w5 39 #[.slice A5 r.length c5]).cell 0) (CRow.le (HQ5.out.2.1.below (below_new w5 (.cells #[.slice A5 r.length c5] 39))) (Nat.le_trans HI.out.2.size (Nat.le_refl _))) (by rw [HQl.out]; omega) (Nat.le_trans (Nat.le_trans HI.out.2.size HQ5.out.2.2.size) (below_new w5 (.cells #[.slice A5 r.length c5] 39)).size) ?_; intro v6 w6 hr6 hb6; obtain ⟨g6, c6, rfl⟩ := qrow_some hr6 (by rw [List.length_append, List.length_singleton]; omega); have HE6 := hid (And.intro hr6 ((HI.out.2.trans (HQ5.out.2.2.mono HI.out.2.size)).trans (((below_new w5 (.cells #[.slice A5 r.length c5] 39)).mono (Nat.le_trans HI.out.2.size HQ5.out.2.2.size)).trans hb6))); clear hr6 hb6))
            rw [show (rs.take i ++ [r]).length = i + 1 by rw [List.length_append, HQl.out]; rfl] at HE6
            rw [show min i rs.length = i by have := HN.out; omega]
            go_wp2
            go_roundw
            case rel => exact ⟨i + 1, g6, c6, by omega, by go_num, rfl, by rw [HTk.out]; exact HE6.out.1, HE6.out.2⟩
            case measure => simp [intOf]; omega
          · obtain rfl : i = N := by omega
            have hrt : rs.take i = rs := by rw [← HN.out, List.take_length]
            have HQ0 : Hid (QRow wr w3.heap.size (.slice (some ⟨gr, 0, none⟩) i cr) rs) := by have := HI.out.1; rw [hrt] at this; exact this
            have HR : Hid (RsA wr (.slice (some ⟨gr, 0, none⟩) i cr) rs ∧ Below w.heap.size w wr) := ⟨HQ0.out.rsa, HB3.out.trans (HI.out.2.mono HB3.out.size)⟩
            have hi12 : i ≤ 12 := by have := HSm.out.1; rw [HN.out] at this; exact this
            have HNw := hid (new_any _ rs wr HR.out.1 (fun l hl => ⟨by have := (HSm.out.2 l hl).1; omega, fun c hc => sm_okn ((HSm.out.2 l hl).2 c hc)⟩) (by have := HSm.out.1; omega) (HL.out.below HR.out.2))
            have HRn : Hid (∀ W, Below wr.heap.size wr W → Calls Tryd.prog 51 #[.slice A0 i c0] W fun e w' => RNwE W (rs.map begL) e w') := fun W hW => rnew_any _ rs W (HH.out.below (HR.out.2.trans (hW.mono HR.out.2.size))) HSm.out.2 HSm.out.1
            clear HSo hrt
            go_upto_region 11 with (first | (go_at_call 50; refine HNw.out.mono ?_; rintro e w7 ⟨mb, rfl, hb7, hS7⟩))
            have HRn7 := hid (HRn.out w7 hb7)
            have HD7 := hid (And.intro hb7 hS7)
            clear hb7 hS7 HNw HRn
            go_upto_region 14 with (first | (go_at_call 51; refine HRn7.out.mono ?_; rintro e w8 ⟨rb, A8, n8, c8, rfl, hR8, hb8⟩))
            obtain ⟨B1, hB1⟩ : ∃ B, wr.heap.size = B := ⟨_, rfl⟩
            obtain ⟨G1, hG1⟩ : ∃ G, w7.heap.size = G := ⟨_, rfl⟩
            obtain ⟨C2, hC2⟩ : ∃ C, w8.heap.size = C := ⟨_, rfl⟩
            have HBG : Hid (B1 ≤ G1 ∧ G1 ≤ C2) := ⟨by rw [← hB1, ← hG1]; exact HD7.out.1.size, by rw [← hG1, ← hC2]; exact hb8.size⟩
            have HC8 : Hid (CcM wr w8 B1 G1 mb C2 rb n8 c8 A8 (runsF begL 0 rs) (rs.map begL)) := by
              have h1 := HD7.out.2
              rw [hB1, hG1] at h1
              rw [hG1, hC2] at hR8
              have hn8 := hR8.len
              rw [List.length_map] at hn8
              have hbb := HD7.out.1.trans (hb8.mono HD7.out.1.size)
              rw [hB1] at hbb
              refine ⟨h1.below hb8, hR8, ?_, runs_gd (fun l hl => by have := (HSm.out.2 l hl).1; omega) (by have := HSm.out.1; omega), fun l hl d hd => ?_, hbb, by rw [← hC2]; exact Nat.le_refl _, by have := HSm.out.1; omega, fun l hl => ?_⟩
              · rw [rnL_beg]
              · obtain ⟨r, hr, rfl⟩ := List.mem_map.1 hl
                exact (HSm.out.2 r hr).2 d (List.mem_of_mem_take hd)
              · obtain ⟨r, hr, rfl⟩ := List.mem_map.1 hl
                have := (HSm.out.2 r hr).1
                show (r.take (begI r)).length ≤ _
                rw [List.length_take]; omega
            clear hG1 hC2 hR8 hb8 HD7 HRn7
            obtain ⟨wA, rfl⟩ : ∃ W, W = wr := ⟨_, rfl⟩
            go_wp2
            go_loopw [11] (fun vi wq => ∃ (j : Nat), j ≤ S ∧ vi = .int .i64 j ∧ Hid (∃ H ls, CcM wA wq B1 G1 mb C2 rb n8 c8 A8 H ls)) (fun vi _ => S - (intOf vi).toNat)
            case atStart => exact ⟨0, Nat.zero_le _, rfl, _, _, HC8.out⟩
            case round =>
              clear HC8
              obtain ⟨j, hj, rfl, HJ⟩ := hrel
              obtain ⟨H, ls, hcc⟩ := HJ.out
              have HC := hid hcc
              clear HJ hcc
              by_cases hlt : j < S
              · have hltz : (j : Int) < (S : Int) := by omega
                have hS60 : S ≤ 60 := HSk2.out.1
                obtain ⟨d, k, ok, hN5⟩ := next_two HC.out HBG.out.2 HBG.out.1
                have HN5 := hid hN5
                clear hN5
                go_upto_region 18 with (first | (go_at_call 52; refine HN5.out.mono ?_; rintro e w5 ⟨rfl, H5⟩))
                obtain ⟨B5, hB5⟩ : ∃ B, B = w5.heap.size := ⟨_, rfl⟩
                have HB5 := hid hB5
                obtain ⟨nb, hnb9⟩ : ∃ nb, w5.heap.size = nb := ⟨_, rfl⟩
                have hnB : nb = B5 := by rw [hB5, hnb9]
                have HnB := hid hnB
                refine wp_lt9 (fun W => Hid (DW W nb d ∧ Below B5 w5 W)) ?_ ?_
                · rw [← hnb9, hB5]
                  exact ⟨Blk.new w5 _ _, below_new w5 _⟩
                rw [hnb9]
                clear hnb9 hB5 hnB
                rintro w6 HI6
                have HN6 := hid (H5.out.2.2 w6 (by rw [← HB5.out]; exact HI6.out.2))
                go_upto_region 19 with (first | (go_at_call 53; refine HN6.out.mono ?_; rintro e w7 ⟨rfl, H7⟩))
                have HI7 : Hid (DW w7 nb d ∧ Below B1 wA w7 ∧ ∃ H2 ls2, CcM wA w7 B1 G1 mb C2 rb n8 c8 A8 H2 ls2) := by
                  obtain ⟨hM, hC9, H2, ls2, h9⟩ := H7.out
                  have hlt := Blk.lt HI6.out.1
                  exact ⟨(hM.block nb hlt (.inr (by have := HnB.out; have := HB5.out; omega))).trans HI6.out.1, h9.be, H2, ls2, h9⟩
                obtain ⟨nc, hnc9⟩ : ∃ nc, w7.heap.size = nc := ⟨_, rfl⟩
                refine wp_lt9 (fun W => Hid (DW W nb d ∧ DW W nc d ∧ Below B1 wA W ∧ ∃ H2 ls2, CcM wA W B1 G1 mb C2 rb n8 c8 A8 H2 ls2)) ?_ ?_
                · rw [← hnc9]
                  obtain ⟨h1, h2, H2, ls2, h3⟩ := HI7.out
                  exact ⟨h1.below (below_new w7 _), Blk.new w7 _ _, h2.trans ((below_new w7 _).mono (by rw [← hB1]; exact h2.size)), H2, ls2, h3.below (by rw [← hB1]; exact h2.size) (below_new w7 _)⟩
                rw [hnc9]
                clear hnc9 HI7 H7 HN6 HI6 HnB HB5 H5 HN5 HC
                rintro w8 HI8
                obtain ⟨H2, ls2, hc2⟩ := HI8.out.2.2.2
                have HC2 := hid hc2
                clear hc2
                have HWd : Hid (∀ W, Below w8.heap.size w8 W → (W.cell? ⟨nb, 0, none⟩ = some (.string d.r) ∧ W.cell? ⟨nb, 1, none⟩ = some (.string d.f)) ∧ True) := fun W hW => ⟨⟨(DW.below HI8.out.1 hW).words.1, (DW.below HI8.out.1 hW).words.2.1⟩, trivial⟩
                obtain ⟨x0, x1, x2, x3, x4, x5, x6, x7⟩ := HI8.out.1.words
                obtain ⟨y0, y1, y2, y3, y4, y5, y6, y7⟩ := HI8.out.2.1.words
                obtain ⟨q, hq1, hq2⟩ := left_one HC2.out
                have HQ1 := hid (hq1 w8 (Below.refl _ _))
                have HQ2 := hid (hq2 w8 (Below.refl _ _))
                clear hq1 hq2 HWd
                have hjl : j < sk.length := by rw [HS.out]; exact hlt
                obtain ⟨sb, so, rfl, hhk⟩ := HK3.out (by omega)
                obtain ⟨c, hcj⟩ : ∃ c, sk[j]? = some c := ⟨_, List.getElem?_eq_getElem hjl⟩
                have HcS := hid (HSk2.out.2 c (List.mem_of_getElem? hcj))
                have HX : Hid (∀ W, Below B1 wA W → W.cell? ⟨sb, so + j * 8, none⟩ = some (.string c.r) ∧ W.cell? ⟨sb, so + j * 8 + 1, none⟩ = some (.string c.f) ∧ W.cell? ⟨sb, so + j * 8 + 2, none⟩ = some (.string c.q) ∧ W.cell? ⟨sb, so + j * 8 + 3, none⟩ = some (.int .i64 c.t) ∧ W.cell? ⟨sb, so + j * 8 + 4, none⟩ = some (.int .i64 c.k) ∧ W.cell? ⟨sb, so + j * 8 + 5, none⟩ = some (.int .i64 c.vk) ∧ W.cell? ⟨sb, so + j * 8 + 6, none⟩ = some (.int .i64 c.vn) ∧ W.cell? ⟨sb, so + j * 8 + 7, none⟩ = some (.string c.s)) := fun W hW => by
                  have hbW : Below w.heap.size w W := HR.out.2.trans (hW.mono (by rw [← hB1]; exact HR.out.2.size))
                  obtain ⟨a0, a1, a2, a3, a4, a5, a6, a7⟩ := ct_words hhk j hcj
                  exact ⟨(hbW.cell (p := ⟨sb, _, none⟩) (cell_lt a0)).trans a0, (hbW.cell (p := ⟨sb, _, none⟩) (cell_lt a0)).trans a1, (hbW.cell (p := ⟨sb, _, none⟩) (cell_lt a0)).trans a2, (hbW.cell (p := ⟨sb, _, none⟩) (cell_lt a0)).trans a3, (hbW.cell (p := ⟨sb, _, none⟩) (cell_lt a0)).trans a4, (hbW.cell (p := ⟨sb, _, none⟩) (cell_lt a0)).trans a5, (hbW.cell (p := ⟨sb, _, none⟩) (cell_lt a0)).trans a6, (hbW.cell (p := ⟨sb, _, none⟩) (cell_lt a0)).trans a7⟩
                clear hhk hcj hjl
                go_upto_region 21 with (first
                  | (go_at_call 54; refine HQ1.out.mono ?_; rintro e w9 ⟨rfl, rfl⟩)
                  | (go_at_call 55; refine HQ2.out.mono ?_; rintro e w9 ⟨rfl, rfl⟩))
                have HB8 := hid HI8.out.2.2.1
                clear x0 x1 x2 x3 x4 x5 x6 x7 y0 y1 y2 y3 y4 y5 y6 y7 HQ1 HQ2 HI8
                obtain ⟨a0, a1, a2, a3, a4, a5, a6, a7⟩ := HX.out w9 HB8.out
                have HSk9 := hid (skip_one HC2.out c HcS.out HBG.out.2 HBG.out.1)
                go_upto_region 22 with (first | (go_at_call 56; refine HSk9.out.mono ?_; rintro e w99 ⟨rfl, H99⟩))
                clear a0 a1 a2 a3 a4 a5 a6 a7 HSk9 HC2
                obtain ⟨a0, a1, a2, a3, a4, a5, a6, a7⟩ := HX.out w99 (HB8.out.trans H99.out.1)
                go_upto_region 23 with (first | (go_at_call 57; refine H99.out.2.mono ?_; rintro e w10 ⟨rfl, H10⟩))
                clear a0 a1 a2 a3 a4 a5 a6 a7 HX H99
                have HC3 := hid H10.out.2
                obtain ⟨q3, hq3, hq4⟩ := left_one HC3.out
                have HQ3 := hid (hq3 w10 (Below.refl _ _))
                have HQ4 := hid (hq4 w10 (Below.refl _ _))
                clear hq3 hq4 H10
                go_wp2_with (first
                  | (go_at_call 54; refine HQ3.out.mono ?_; rintro e w11 ⟨rfl, rfl⟩)
                  | (go_at_call 55; refine HQ4.out.mono ?_; rintro e w11 ⟨rfl, rfl⟩))
                go_roundw
                case rel => exact ⟨j + 1, by omega, by go_num, _, _, HC3.out⟩
                case measure => simp [intOf]; omega
              · obtain rfl : j = S := by omega
                have HBq : Hid (Below wA.heap.size wA wr ∧ Below w.heap.size w wr) := by
                  have h1 := HC.out.be
                  rw [← hB1] at h1
                  exact ⟨h1, HR.out.2.trans (h1.mono HR.out.2.size)⟩
                obtain ⟨ml, hml, hln, hms⟩ := told_any HSm.out.2 HSm.out.1
                have HMl := hid (And.intro hml (And.intro hln hms))
                have HMe := hid (merge_any _ rs wr (HR.out.1.below HBq.out.1) (fun l hl => ⟨by have := (HSm.out.2 l hl).1; omega, fun c hc => ((HSm.out.2 l hl).2 c hc).1⟩) (by have := HSm.out.1; omega) (HL.out.below HBq.out.2) hml)
                clear hml hln hms HC HBG hB1
                go_upto_region 26 with (first | (go_at_call 58; refine HMe.out.mono ?_; rintro e w7 ⟨va, rfl, hr7, hb7⟩))
                have HR7 := hid hr7
                have HB7 := hid hb7
                obtain ⟨fa, hfa⟩ : ∃ l, (ml.filter fun c => lowB row c) = l := ⟨_, rfl⟩
                obtain ⟨fb, hfb⟩ : ∃ l, (ml.filter fun c => !lowB row c) = l := ⟨_, rfl⟩
                have HSp := hid (split_any va ml row w7 hr7.cla (by have := HMl.out.2.1; omega))
                clear hr7 hb7 HMe
                go_upto_region 27 with (first | (go_at_call 59; refine HSp.out.mono ?_; rintro e w12 ⟨s1, s2, rfl, hS12⟩))
                rw [hfa, hfb] at hS12
                have H12 := hid hS12
                have HRs := hid (rsplit_any va ml row hrow w12 (HR7.out.cla.below hS12.be) (by have := HMl.out.2.1; omega) (fun c hc => by have := (HMl.out.2.2 c hc).2.1; omega))
                clear hS12 HSp
                go_upto_region 28 with (first | (go_at_call 60; refine HRs.out.mono ?_; rintro e w13 ⟨p1, p2, rfl, hS13⟩))
                rw [hfa, hfb] at hS13
                have HB13 : Hid (Below wr.heap.size wr w13) := (HB7.out.trans (H12.out.be.mono HB7.out.size)).trans (hS13.be.mono (Nat.le_trans HB7.out.size H12.out.be.size))
                have HCs : Hid ((ClA w13 va ml) ∧ (ClA w13 s1 fa ∧ ClA w13 p1 fa) ∧ (ClA w13 s2 fb ∧ ClA w13 p2 fb)) := ⟨(HR7.out.cla.below H12.out.be).below hS13.be, ⟨H12.out.ra.cla.below hS13.be, hS13.ra.cla⟩, H12.out.rb.cla.below hS13.be, hS13.rb.cla⟩
                clear hS13 HRs H12 HB7 HR7 hfa hfb
                obtain ⟨wB, hwB⟩ : ∃ W, W = wr := ⟨_, rfl⟩
                have HB14 : Hid (Below w.heap.size w w13 ∧ Below wA.heap.size wA w13) := ⟨HBq.out.2.trans (HB13.out.mono HBq.out.2.size), HBq.out.1.trans (HB13.out.mono HBq.out.1.size)⟩
                clear HB13 HBq hwB
                go_wp2
                go_loopw [23] (fun vi wq => ∃ (k : Nat), k ≤ i ∧ vi = .int .i64 k ∧ Hid (Below w13.heap.size w13 wq)) (fun vi _ => i - (intOf vi).toNat)
                case atStart => exact ⟨0, Nat.zero_le _, rfl, Below.refl _ _⟩
                case round =>
                  obtain ⟨k, hk, rfl, HK9⟩ := hrel
                  have HA9 : Hid (Below w.heap.size w wr ∧ Below wA.heap.size wA wr) := ⟨HB14.out.1.trans (HK9.out.mono HB14.out.1.size), HB14.out.2.trans (HK9.out.mono HB14.out.2.size)⟩
                  by_cases hlt : k < i
                  · have hltz : (k : Int) < (i : Int) := by omega
                    have hkl : k < rs.length := by rw [HN.out]; exact hlt
                    obtain ⟨r, hr⟩ : ∃ r, rs[k]? = some r := ⟨_, List.getElem?_eq_getElem hkl⟩
                    obtain ⟨bb, off, rfl, hhc⟩ := HH3.out (by omega)
                    obtain ⟨u2, hu2, hcl2⟩ := hhc k r hr
                    obtain ⟨Aq, cq, eq, _, _, hq⟩ := HR.out.1
                    injection eq with eq1 eq2 eq3
                    obtain ⟨bq, oq, eq4, hqc⟩ := hq (by omega)
                    rw [← eq1] at eq4
                    injection eq4 with eq4
                    injection eq4 with eq5 eq6
                    obtain ⟨u1, hu1, hcl1⟩ := hqc k r hr
                    rw [← eq5, ← eq6, Nat.zero_add] at hu1
                    have x1 := (HA9.out.2.cell (p := ⟨gr, k, none⟩) (cell_lt hu1)).trans hu1
                    have x2 := (HA9.out.1.cell (p := ⟨bb, off + k, none⟩) (cell_lt hu2)).trans hu2
                    have HT : Hid (TwW wr gr k bb (off + k) u1 u2 wr) := ⟨hid ⟨Below.refl _ _, cell_lt x1, cell_lt x2⟩, x1, x2⟩
                    have HSa : Hid (∀ W, TwW wr gr k bb (off + k) u1 u2 W → Calls Tryd.prog 38 #[u1, u2] W fun e w' => e = .returned (.bool true) ∧ Below W.heap.size W w') := fun W hW => by
                      have hb := hW.1.out.1
                      refine (samecells_any u1 u2 r r W ((hcl1.below HA9.out.2).below hb) ((hcl2.below HA9.out.1).below hb)).mono fun e w' ⟨he, hb⟩ => ⟨by rw [he, decide_eq_true rfl], hb⟩
                    clear hr hu2 hcl2 hu1 hcl1 hhc hqc hq eq1 eq2 eq3 eq5 eq6 hkl x1 x2
                    obtain ⟨-, x1, x2⟩ := HT.out
                    go_upto_region 31 with (fail)
                    go_region_held3 (fun W' => Hid (Below wr.heap.size wr W' ∧ gr < wr.heap.size ∧ bb < wr.heap.size) ∧ W'.cell? ⟨gr, k, none⟩ = some u1 ∧ W'.cell? ⟨bb, off + k, none⟩ = some u2)
                      (first | exact HT.out | exact tww_drew HT.out | exact tww_call (by assumption) hb3 | exact tww_drew (by assumption) | assumption)
                      (first | (go_at_call 38; refine (HSa.out _ (by assumption)).mono ?_; rintro e w3 ⟨rfl, hb3⟩))
                    rename_i hLast
                    have HZ : Hid (Below w13.heap.size w13 _) := HK9.out.trans (hLast.1.out.1.mono HK9.out.size)
                    clear hLast HT x1 x2
                    go_wp2
                    go_roundw
                    case rel => exact ⟨k + 1, by omega, by go_num, HZ.out⟩
                    case measure => simp [intOf]; omega
                  · obtain rfl : k = i := by omega
                    have HRm := hid (rmerge_any _ rs wr (HH.out.below HA9.out.1) HSm.out.2 HSm.out.1 HMl.out.1 (by have := HMl.out.2.1; omega))
                    have HS1 : Hid (∀ (W : World) (v : Value), Below w13.heap.size w13 W → ClA W v ml → Calls Tryd.prog 38 #[va, v] W fun e w' => e = .returned (.bool true) ∧ Below W.heap.size W w') := fun W v hW hv => (samecells_any _ _ ml ml W (HCs.out.1.below hW) hv).mono fun e w' ⟨he, hb⟩ => ⟨by rw [he, decide_eq_true rfl], hb⟩
                    have HS2 : Hid (∀ (W : World), Below w13.heap.size w13 W → Calls Tryd.prog 38 #[s1, p1] W fun e w' => e = .returned (.bool true) ∧ Below W.heap.size W w') := fun W hW => (samecells_any _ _ fa fa W (HCs.out.2.1.1.below hW) (HCs.out.2.1.2.below hW)).mono fun e w' ⟨he, hb⟩ => ⟨by rw [he, decide_eq_true rfl], hb⟩
                    have HS3 : Hid (∀ (W : World), Below w13.heap.size w13 W → Calls Tryd.prog 38 #[s2, p2] W fun e w' => e = .returned (.bool true) ∧ Below W.heap.size W w') := fun W hW => (samecells_any _ _ fb fb W (HCs.out.2.2.1.below hW) (HCs.out.2.2.2.below hW)).mono fun e w' ⟨he, hb⟩ => ⟨by rw [he, decide_eq_true rfl], hb⟩
                    go_wp2_with (first
                      | (go_at_call 61; refine HRm.out.mono ?_; rintro e w14 ⟨v14, rfl, hr14, hb14⟩; have HB15 := hid (HK9.out.trans (hb14.mono HK9.out.size)))
                      | (go_at_call 38; first
                          | (refine (HS1.out _ _ HB15.out hr14.cla).mono ?_; clear HS1; rintro e w15 ⟨rfl, hb15⟩; have HB16 := hid (HB15.out.trans (hb15.mono HB15.out.size)))
                          | (refine (HS2.out _ HB16.out).mono ?_; clear HS2; rintro e w16 ⟨rfl, hb16⟩; have HB17 := hid (HB16.out.trans (hb16.mono HB16.out.size)))
                          | (refine (HS3.out _ HB17.out).mono ?_; clear HS3; rintro e w17 ⟨rfl, hb17⟩; have HB18 := hid (HB17.out.trans (hb17.mono HB17.out.size)))))
                    go_ret
                    exact ⟨rfl, HB14.out.1.trans (HB18.out.mono HB14.out.1.size)⟩
end Go.Proofs.YtgfkobfkncpmoaaDoor
