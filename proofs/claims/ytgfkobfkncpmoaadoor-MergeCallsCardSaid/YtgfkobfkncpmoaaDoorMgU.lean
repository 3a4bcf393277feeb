/- merge.Merge: runs, made one, are what they tell. Conditions: those of over. -/
import Derived.Test.YtgfkobfkncpmoaaDoorMgQ
import Derived.Maps.AppendAt
import Derived.Deep.WholeRow
namespace Go.Proofs.YtgfkobfkncpmoaaDoor
open Go.RowKit

theorem cell_new9 (y : CT) (W : World) : ∀ j u, y.e[j]? = some u → (W.alloc (.cells #[.string y.r, .string y.f, .string y.q, .int .i64 y.t, .int .i64 y.k, .int .i64 y.vk, .int .i64 y.vn, .string y.s] 28)).cell? ((⟨W.heap.size, 0, Option.none⟩ : Addr).add j) = some u := fun j u hu => by
  rw [add_zero_off, Nat.zero_add, (Blk.new W 28 #[.string y.r, .string y.f, .string y.q, .int .i64 y.t, .int .i64 y.k, .int .i64 y.vk, .int .i64 y.vn, .string y.s]).cell j, ← Array.getElem?_toList]
  exact hu
section
variable {ops : Array Oper} {rest : List Oper} {o : Oper} {a : Act} {Q : Exit → Act → World → Prop}
theorem wpList_append_cell9 (hgd : o.guard = Option.none) (s x : Operand)
    (ho : o.op = .call { callee := .builtin .append, args := #[s, x], argTypes := #[39, 39] })
    (w : World) (base : Nat) (v : Value) (l : List CT) (hs : a.eval s = v) (hown : CRow w base v l)
    (G : Nat) (m : Nat) (hx : a.eval x = .slice (some ⟨G, 0, Option.none⟩) 1 m) (y : CT) (hc : ∀ j u, y.e[j]? = some u → w.cell? ((⟨G, 0, Option.none⟩ : Addr).add j) = some u)
    (hlen : l.length ≤ 1466015503658) (hbase : base ≤ w.heap.size)
    (h : ∀ v' w', CRow w' base v' (l ++ [y]) → w.grownBy w' v.ownBlock → (v'.ownBlock = v.ownBlock ∨ v'.ownBlock = some w.heap.size) → wpList Tryd.prog ops Q rest (a.put o.dst v') w') : wpList Tryd.prog ops Q (o :: rest) a w := by
  obtain ⟨i0, hi, hz0, hz1, hz2⟩ := info_parts info_cell
  refine wpList_append_own_at w hgd s x 39 ho base 28 i0 _ 8 96 Tryd.underlying39 hi hz0 hz1 hz2 rfl (by decide) v l.length (flatC l) hs hown ⟨G, 0, Option.none⟩ 1 m y.e hx (CT.e_len y) hc y.e_one (by unfold maxLen; omega) (by omega) hbase ?_
  intro v' w' h1 h2 _ h3
  refine h v' w' ?_ h2 h3
  unfold CRow
  rw [flatC_app, flatC_one, List.length_append]
  exact h1
end
theorem setRow_blk9 {w : World} {g : Nat} {T : TypeId} {xs ys : Array Value} (h : Blk w g T xs) : Blk (w.setRow g ys) g T ys := setRow_heap _ _ xs _ _ (0, 0) h
/-- A merger keeps to its blocks. -/
theorem MgS.kept {W W2 : World} {B G C mb : Nat} {H : List (Rn CT)} (h : MgS W B G C mb H) (hb : Below G W W2) (hC : C ≤ G) : MgS W2 B G C mb H := by
  obtain ⟨h1, h2, h3⟩ := h
  refine ⟨h1, Nat.le_trans h2 hb.size, ?_⟩
  rcases h3 with ⟨e, v, h3, h9⟩ | ⟨g, cap, x, l, q, h4, h5, h6⟩
  · exact .inl ⟨e, v, ⟨h3.lo, (hb.block mb h1).trans h3.blk, x_own0 h3.row fun k hk => hb.block k (h9 k hk), fun x hx => by simp at hx, fun x hx => by simp at hx⟩, h9⟩
  · refine .inr ⟨g, cap, x, l, q, ⟨h4.lo, h4.lg, h4.ne, h4.blk.stay9 (hb.block mb h1), h4.row.stay (hb.block g q), fun y hy => (h4.cl y hy).stay9 fun b hb2 _ => hb.block b (by have := (h4.ap y hy b hb2).2.2; omega), h4.ap⟩, h5, h6⟩
def lenV9 : Value → Nat
  | .slice _ n _ => n
  | _ => 0
/-- Where Merge is. -/
structure MeM (w W : World) (G mb : Nat) (va : Value) (acc : List CT) (cb : Nat) (d : CT) (H : List (Rn CT)) : Prop where
  row : CRow W G va acc
  ce : Blk W cb 28 d.e.toArray
  cg : G ≤ cb
  ne : va.ownBlock ≠ some cb
  ms : MgS W w.heap.size G w.heap.size mb H
  be : Below w.heap.size w W
  gd : Gd H
  wg : w.heap.size ≤ G
theorem MeM.cell {w W : World} {G mb cb : Nat} {va : Value} {acc : List CT} {d : CT} {H : List (Rn CT)} (h : MeM w W G mb va acc cb d H) : MeM w (W.alloc (.cells #[.string d.r, .string d.f, .string d.q, .int .i64 d.t, .int .i64 d.k, .int .i64 d.vk, .int .i64 d.vn, .string d.s] 28)) G mb va acc W.heap.size d H := by
  have hb := below_new W (.cells #[.string d.r, .string d.f, .string d.q, .int .i64 d.t, .int .i64 d.k, .int .i64 d.vk, .int .i64 d.vn, .string d.s] 28)
  exact ⟨h.row.below hb, Blk.new W _ _, h.ms.2.1, fun e => by have := (World.ownsRow.lt h.row _ e).2; omega, h.ms.below hb, h.be.trans (hb.mono h.be.size), h.gd, h.wg⟩
theorem MeM.more {w W W1 W2 : World} {G mb cb : Nat} {va v2 : Value} {acc : List CT} {d : CT} {H : List (Rn CT)} (h : MeM w W G mb va acc cb d H) (hb : Below W.heap.size W W1) (hr : CRow W2 G v2 (acc ++ [d])) (hg : W1.grownBy W2 va.ownBlock) (ho : v2.ownBlock = va.ownBlock ∨ v2.ownBlock = some W1.heap.size) : MeM w W2 G mb v2 (acc ++ [d]) cb d H := by
  have hG : G ≤ W.heap.size := h.ms.2.1
  have hlt := h.ce.lt
  have hb2 : Below G W1 W2 := (Below.refl _ _).grown hg (Nat.le_trans hG hb.size) fun k hk => (World.ownsRow.lt h.row k hk).1
  refine ⟨hr, ?_, h.cg, fun e => ?_, (h.ms.below hb).kept hb2 h.wg, (h.be.trans (hb.mono h.be.size)).trans (hb2.mono h.wg), h.gd, h.wg⟩
  · exact (hg.block cb (Nat.lt_of_lt_of_le hlt hb.size) fun e => h.ne e.symm).trans (h.ce.keep hb hlt)
  · rcases ho with q | q
    · exact h.ne (q ▸ e)
    · rw [q] at e
      injection e with e
      have := hb.size
      omega
theorem MeM.next {w W W2 : World} {G mb cb : Nat} {va : Value} {acc : List CT} {d d2 : CT} {H H2 : List (Rn CT)} (h : MeM w W G mb va acc cb d H) (hm : Mdl w.heap.size G W W2) (hs : MgS W2 w.heap.size G w.heap.size mb H2) (hg : Gd H2) : Blk W2 cb 28 d.e.toArray ∧ MeM w (W2.setRow cb d2.e.toArray) G mb va acc cb d2 H2 := by
  have k2 : Blk W2 cb 28 d.e.toArray := (hm.block cb h.ce.lt (.inr h.cg)).trans h.ce
  have hne : ∀ k, k ≠ cb → (W2.setRow cb d2.e.toArray).heap[k]? = W2.heap[k]? := fun k hk => setRow_ne9 hk
  have hb9 : Below G W2 (W2.setRow cb d2.e.toArray) := ⟨rfl, rfl, rfl, by simp, fun k hk => hne k (by have := h.cg; omega)⟩
  refine ⟨k2, x_own0 h.row fun k hk => ?_, setRow_blk9 k2, h.cg, h.ne, hs.kept hb9 h.wg, (h.be.trans (hm.below h.be.size)).trans (hb9.mono h.wg), hg, h.wg⟩
  have h1 := World.ownsRow.lt h.row k hk
  exact (hne k fun e => h.ne (e ▸ hk)).trans (hm.block k h1.2 (.inr h1.1))
/-- What is left to be told. -/
def MeR (ml acc : List CT) (d : CT) (ok : Bool) (H : List (Rn CT)) : Prop := acc.length + cntR H ≤ 1000000000 ∧ (ok = false → ml = acc) ∧ (ok = true → acc.length + cntR H < 1000000000 ∧ ∃ l, ml = acc ++ d :: l ∧ MgO CT.cmp H l)
theorem runs_gd {rs : List (List CT)} (hs : ∀ l ∈ rs, l.length ≤ 1000000) (hl : rs.length ≤ 1000) : Gd (runsF begL 0 rs) := by
  have h1 : ∀ (k : Nat) (a : List (List CT)), (∀ l ∈ a, l.length ≤ 1000000) → (runsF begL k a).length ≤ a.length ∧ cntR (runsF begL k a) ≤ a.length * 1000000 := by
    intro k a
    induction a generalizing k with
    | nil => exact fun _ => ⟨Nat.le_refl _, Nat.le_refl _⟩
    | cons x t ih =>
      intro ha
      have this := ih (k + 1) fun l hl => ha l (List.mem_cons_of_mem _ hl)
      rw [runsF, List.length_append, List.length_cons, cntR_app]
      have hx : (begL x).length ≤ 1000000 := by
        show (x.take (begI x)).length ≤ _
        rw [List.length_take]
        have := ha x (List.mem_cons_self ..)
        omega
      have h2 : (ofL (begL x) k).toList.length ≤ 1 ∧ cntR (ofL (begL x) k).toList ≤ 1000000 := by
        cases hb : begL x with
        | nil => exact ⟨Nat.zero_le _, Nat.zero_le _⟩
        | cons a u =>
          rw [hb, List.length_cons] at hx
          refine ⟨Nat.le_refl _, ?_⟩
          show (u.length + 1) + 0 ≤ _
          omega
      have t1 := this.1
      have t2 := this.2
      omega
  have := h1 0 rs hs
  exact ⟨runsF_rise begL (begG_rise ct_c3 CT.ok) 0 rs, runsF_dst begL 0 rs, by omega, by have := this.2; omega⟩

set_option maxRecDepth 100000 in
set_option maxHeartbeats 16000000 in
theorem merge_any (v : Value) (rs : List (List CT)) (w : World) (h : RsA w v rs) (hs : ∀ l ∈ rs, l.length ≤ 1000000 ∧ ∀ c ∈ l, okC c) (hl : rs.length ≤ 1000) (hL : LaidU w) {ml : List CT} (hm : MgO CT.cmp (runsF begL 0 rs) ml) :
    Calls Tryd.prog 58 #[v] w fun e w' => ∃ v', e = .returned v' ∧ CRow w' w.heap.size v' ml ∧ Below w.heap.size w w' := by
  have mixed : Tryd.prog.follows .mixedOrders = true := by kernel_rfl
  have hi28 : (Tryd.prog.info? 28).map (·.size) = some 8 := by kernel_rfl
  have HOv := hid (over_any v rs w h hs hl hL)
  have HGd := hid (runs_gd (fun l hl => (hs l hl).1) hl)
  obtain ⟨H0, hH⟩ : ∃ H, runsF begL 0 rs = H := ⟨_, rfl⟩
  rw [hH] at HOv HGd hm
  have HM := hid hm
  clear h hs hl hL hH hm
  go_enter Tryd.func58, Tryd.ntmps58
  go_upto_region 3 with (first | (go_at_call 126; refine HOv.out.mono ?_; rintro e w1 ⟨mb, rfl, hb1, hS1⟩))
  have HB1 := hid hb1
  obtain ⟨G, hG⟩ : ∃ G, w1.heap.size = G := ⟨_, rfl⟩
  rw [hG] at hS1
  have HS1 := hid hS1
  have HG := hid hG
  have HNx := hid (next_mu w1 hS1 HGd.out HM.out hb1.size)
  clear hb1 hS1 HOv hG
  go_upto_region 4 with (first | (go_at_call 52; refine HNx.out.mono ?_; rintro e w2 ⟨d, k, ok, H1, rfl, HX⟩))
  obtain ⟨cb, hcb⟩ : ∃ cb, w2.heap.size = cb := ⟨_, rfl⟩
  have HE0 : Hid (MeM w (w2.alloc (.cells #[.string d.r, .string d.f, .string d.q, .int .i64 d.t, .int .i64 d.k, .int .i64 d.vk, .int .i64 d.vn, .string d.s] 28)) G mb (.slice none 0 0) [] cb d H1 ∧ MeR ml [] d ok H1) := by
    have hb := below_new w2 (.cells #[.string d.r, .string d.f, .string d.q, .int .i64 d.t, .int .i64 d.k, .int .i64 d.vk, .int .i64 d.vn, .string d.s] 28)
    obtain ⟨h1, h2, h3, h4, h5⟩ := HX.out
    have hw1 := HB1.out.size
    have hB2 := HB1.out.trans (h2.below hw1)
    have hgc := HGd.out.cnt
    refine ⟨⟨⟨rfl, .inl ⟨rfl, rfl⟩⟩, by rw [← hcb]; exact Blk.new w2 _ _, by rw [← hcb]; exact h1.2.1, by simp [Value.ownBlock], h1.below hb, hB2.trans (hb.mono hB2.size), h3, by rw [← HG.out]; exact hw1⟩, ?_, fun e => (h4 e).1, fun e => ⟨?_, ?_⟩⟩
    · have := h3.cnt; simpa using this
    · have := (h5 e).1; simp only [List.length_nil]; omega
    · exact (h5 e).2
  rw [hcb]
  obtain ⟨W0, hW0⟩ : ∃ W, w2.alloc (.cells #[.string d.r, .string d.f, .string d.q, .int .i64 d.t, .int .i64 d.k, .int .i64 d.vk, .int .i64 d.vn, .string d.s] 28) = W := ⟨_, rfl⟩
  rw [hW0] at HE0 ⊢
  clear hW0 hcb HX HNx HS1 HGd HM HB1 HG
  go_loopw [3, 5, 7] (fun va vc vo wr => ∃ (acc : List CT) (cb : Nat) (d : CT) (ok : Bool) (H : List (Rn CT)), vc = .pointer (some ⟨cb, 0, none⟩) ∧ vo = .bool ok ∧ Hid (MeM w wr G mb va acc cb d H ∧ MeR ml acc d ok H)) (fun va _ _ _ => ml.length - lenV9 va)
  case atStart => exact ⟨[], cb, d, ok, H1, rfl, rfl, HE0⟩
  case round =>
    clear HE0
    obtain ⟨acc, cb, d, ok, H, rfl, rfl, HI⟩ := hrel
    obtain ⟨Aa, ca, rfl, -⟩ := HI.out.1.row.len
    obtain ⟨na, hna⟩ : ∃ na, acc.length = na := ⟨_, rfl⟩
    have HNa := hid hna
    rw [hna] at HI ⊢
    clear hna
    cases ok with
    | false =>
      go_wp2
      go_ret
      exact ⟨_, rfl, by rw [(HI.out.2.2.1 rfl)]; exact HI.out.1.row.le HI.out.1.wg, HI.out.1.be⟩
    | true =>
      have c0 : wr.cell? ⟨cb, 0, none⟩ = some (.string d.r) := HI.out.1.ce.cell 0; have c1 : wr.cell? ⟨cb, 1, none⟩ = some (.string d.f) := HI.out.1.ce.cell 1; have c2 : wr.cell? ⟨cb, 2, none⟩ = some (.string d.q) := HI.out.1.ce.cell 2; have c3 : wr.cell? ⟨cb, 3, none⟩ = some (.int .i64 d.t) := HI.out.1.ce.cell 3; have c4 : wr.cell? ⟨cb, 4, none⟩ = some (.int .i64 d.k) := HI.out.1.ce.cell 4; have c5 : wr.cell? ⟨cb, 5, none⟩ = some (.int .i64 d.vk) := HI.out.1.ce.cell 5; have c6 : wr.cell? ⟨cb, 6, none⟩ = some (.int .i64 d.vn) := HI.out.1.ce.cell 6; have c7 : wr.cell? ⟨cb, 7, none⟩ = some (.string d.s) := HI.out.1.ce.cell 7
      have HBn : Hid (Below wr.heap.size wr (wr.alloc (.cells #[.string d.r, .string d.f, .string d.q, .int .i64 d.t, .int .i64 d.k, .int .i64 d.vk, .int .i64 d.vn, .string d.s] 28))) := below_new wr _
      have HR := hid (HI.out.2.2.2 rfl)
      go_upto_region 7 with (first | (at_builtin; refine wpList_append_cell9 rfl (.tmp 23) (.tmp 25) rfl _ G _ acc rfl (HI.out.1.row.below HBn.out) _ 1 rfl d (cell_new9 d _) (by have := HR.out.1; omega) (Nat.le_trans HI.out.1.ms.2.1 HBn.out.size) ?_; intro v2 w2 hr2 hg2 ho2; obtain ⟨A2, c2', rfl, -⟩ := hr2.len; have HE := hid (HI.out.1.more HBn.out hr2 hg2 ho2); clear hr2 hg2 ho2))
      clear c0 c1 c2 c3 c4 c5 c6 c7
      have c0 : w2.cell? ⟨cb, 0, none⟩ = some (.string d.r) := HE.out.ce.cell 0; have c1 : w2.cell? ⟨cb, 1, none⟩ = some (.string d.f) := HE.out.ce.cell 1; have c2 : w2.cell? ⟨cb, 2, none⟩ = some (.string d.q) := HE.out.ce.cell 2; have c3 : w2.cell? ⟨cb, 3, none⟩ = some (.int .i64 d.t) := HE.out.ce.cell 3; have c4 : w2.cell? ⟨cb, 4, none⟩ = some (.int .i64 d.k) := HE.out.ce.cell 4; have c5 : w2.cell? ⟨cb, 5, none⟩ = some (.int .i64 d.vk) := HE.out.ce.cell 5; have c6 : w2.cell? ⟨cb, 6, none⟩ = some (.int .i64 d.vn) := HE.out.ce.cell 6; have c7 : w2.cell? ⟨cb, 7, none⟩ = some (.string d.s) := HE.out.ce.cell 7
      rw [show (acc ++ [d]).length = acc.length + 1 by simp] at HE
      obtain ⟨n2, hn2⟩ : ∃ n2, acc.length + 1 = n2 := ⟨_, rfl⟩
      have HN2 := hid hn2
      rw [hn2] at HE ⊢
      clear hn2
      go_upto_region 5 with (fail)
      have HE3 := hid HE.out.cell
      obtain ⟨nb, hnb⟩ : ∃ nb, w2.heap.size = nb := ⟨_, rfl⟩
      rw [hnb] at HE3 ⊢
      obtain ⟨W3, hW3⟩ : ∃ W, w2.alloc (.cells #[.string d.r, .string d.f, .string d.q, .int .i64 d.t, .int .i64 d.k, .int .i64 d.vk, .int .i64 d.vn, .string d.s] 28) = W := ⟨_, rfl⟩
      rw [hW3] at HE3 ⊢
      obtain ⟨l, hml, hmo⟩ := HR.out.2
      have HL := hid (And.intro hml hmo)
      have HNx := hid (next_mu W3 HE3.out.ms HE3.out.gd hmo HE3.out.be.size)
      clear hW3 hnb hml hmo c0 c1 c2 c3 c4 c5 c6 c7 HBn
      have hone : ∀ c : CT, c.e.toArray.all (·.oneCell') = true := fun c => by rw [Array.all_eq_true_iff_forall_mem]; intro u hu; exact c.e_one u (by simpa using hu)
      go_wp2_with (first
        | (go_at_call 52; refine HNx.out.mono ?_; rintro e w4 ⟨d2, k2, ok2, H2, rfl, HX⟩; have HF := hid (HE3.out.next (d2 := d2) HX.out.2.1 HX.out.1 HX.out.2.2.1))
        | (refine wpList_store_row rfl 28 (.tmp 5) (.tmp 20) rfl nb d2.e.toArray rfl rfl 28 d.e.toArray HF.out.1 hi28 rfl (hone d2) ?_))
      go_roundw
      case rel =>
        refine ⟨acc ++ [d], nb, d2, ok2, H2, rfl, rfl, HF.out.2, ?_⟩
        obtain ⟨-, -, -, h4, h5⟩ := HX.out
        have hlen : (acc ++ [d]).length = acc.length + 1 := by simp
        have h1 := HR.out.1
        have hle : cntR H2 ≤ cntR H := by
          cases ok2 with
          | false => rw [(h4 rfl).2.2.1]; exact Nat.zero_le _
          | true => have := (h5 rfl).1; omega
        refine ⟨by omega, fun e => ?_, fun e => ?_⟩
        · rw [HL.out.1, (h4 e).1]
        · have h6 := (h5 e)
          obtain ⟨l', e', h7⟩ := h6.2
          refine ⟨by have := h6.1; omega, l', ?_, h7⟩
          rw [HL.out.1, e', List.append_assoc]
          rfl
      case measure =>
        have h1 := congrArg List.length HL.out.1
        rw [List.length_append, List.length_cons] at h1
        have h2 : n2 = acc.length + 1 := HN2.out.symm
        have h3 := HNa.out
        simp only [lenV9]
        omega
end Go.Proofs.YtgfkobfkncpmoaaDoor
