/- Appends as steps of a region that draws; files that are turned in their row. Conditions: none. -/
import Derived.Test.YtofkfafdodhmdaaSuQ
import Derived.Deep.RegionHeld3
namespace Go.Proofs.Ytofkfafdodhmdaa
open Go.RowKit

theorem grown_refl (w : World) (g : Option Nat) : w.grownBy w g := ⟨rfl, rfl, rfl, Nat.le_refl _, fun _ _ _ => rfl⟩
/-- append of a slice whatever, run. -/
theorem run_append_row (w : World) (base : Nat) (v : Value) (l : List UInt8) (hown : Row w base v l) (A : Option Addr) (c : Nat) (news : List UInt8) (hnews : HoldsA w A news)
    (hlen : l.length + news.length ≤ 100000000) (hbase : base ≤ w.heap.size) :
    ∃ v' w', (Builtin.append_ #[32, 32] 32 #[v, .slice A news.length c]).run Try.prog w = .ok v' w' ∧ Row w' base v' (l ++ news) ∧ w.grownBy w' v.ownBlock ∧ (v'.ownBlock = v.ownBlock ∨ v'.ownBlock = some w.heap.size) := by
  match A, hnews with
  | none, hnews =>
    have h0 : news = [] := by
      cases news with
      | nil => rfl
      | cons y t => obtain ⟨b, off, e, _⟩ := hnews (by simp); cases e
    subst h0
    exact ⟨v, w, run_append_nothing w base v l hown c, by rwa [List.append_nil], grown_refl w _, .inl rfl⟩
  | some ad, hnews =>
    obtain ⟨i0, hi, hz0, hz1, hz2⟩ := info_parts info_u8
    obtain ⟨v', w', r0, r1, r2, _, r4⟩ := run_append_own_at (P := Try.prog) w base 32 32 5 i0 (.int .u8 0) 1 1 Try.underlying32 hi hz0 hz1 hz2 rfl (by decide) v l.length (bc l) hown ad news.length c (bc news) (by rw [bc_len]; omega) (fun j u hu => by
      have hj : j < news.length := by
        rcases Nat.lt_or_ge j news.length with h1 | h1
        · exact h1
        · rw [bc_at, List.getElem?_eq_none h1] at hu; cases hu
      obtain ⟨b, off, e, hh⟩ := hnews (by omega)
      cases e
      rw [add_zero_off, hh j hj, ← hu, bc_at, List.getElem?_eq_getElem hj, List.getD_eq_getElem?_getD, List.getElem?_eq_getElem hj]
      rfl) (bc_one _) (by unfold maxLen; omega) (by omega) hbase
    refine ⟨v', w', r0, ?_, r2, r4⟩
    unfold Row
    rw [bc_app, List.length_append]
    exact r1
/-- append of a slice whatever, as one step of a region that draws. -/
theorem step_append_row {ops : Array Oper} {o : Oper} {a : Act} {K : Act → World → Prop} {Q : Exit → Act → World → Prop} {E : Prop} (hgd : o.guard = Option.none) (s x : Operand)
    (ho : o.op = .call { callee := .builtin .append, args := #[s, x], argTypes := #[32, 32] }) (hty : o.type = 32)
    (w : World) (base : Nat) (v : Value) (l : List UInt8) (hs : a.eval s = v) (hown : Row w base v l)
    (A : Option Addr) (m c : Nat) (news : List UInt8) (hm : news.length = m) (hx : a.eval x = .slice A m c) (hnews : HoldsA w A news)
    (hlen : l.length + news.length ≤ 100000000) (hbase : base ≤ w.heap.size)
    (hK : ∀ v' w', Row w' base v' (l ++ news) → w.grownBy w' v.ownBlock → (v'.ownBlock = v.ownBlock ∨ v'.ownBlock = some w.heap.size) → K (a.put o.dst v') w') :
    if Region.wanted o (yielded ops a.tmps) = true then Oper.wp Try.prog o a w K Q else E := by
  have hw : Region.wanted o (yielded ops a.tmps) = true := by simp [Region.wanted, hgd]
  rw [if_pos hw]
  subst hm
  obtain ⟨v', w', hrun, r1, r2, r3⟩ := run_append_row w base v l hown A c news hnews hlen hbase
  unfold Oper.wp
  simp [execOp, ho, hty, resolve, invoke, builtin, hs, hx, hrun, Result.andThen]
  exact hK v' w' r1 r2 r3
/-- append of a byte that doesn't last, as one step of a region that draws. -/
theorem step_append_lz {ops : Array Oper} {o : Oper} {a : Act} {K : Act → World → Prop} {Q : Exit → Act → World → Prop} {E : Prop} (hgd : o.guard = Option.none) (s x : Operand)
    (ho : o.op = .call { callee := .builtin .append, args := #[s, x], argTypes := #[47, 47] })
    (w : World) (base : Nat) (v : Value) (l : List Lm) (hs : a.eval s = v) (hown : LRow w base v l)
    (G c : Nat) (y : Lm) (hx : a.eval x = .slice (some ⟨G, 0, Option.none⟩) 1 c) (hc : ∀ j u, (encL y)[j]? = some u → w.cell? ((⟨G, 0, Option.none⟩ : Addr).add j) = some u)
    (hlen : l.length ≤ 100000000) (hbase : base ≤ w.heap.size)
    (hK : ∀ v' w', LRow w' base v' (l ++ [y]) → w.grownBy w' v.ownBlock → (v'.ownBlock = v.ownBlock ∨ v'.ownBlock = some w.heap.size) → K (a.put o.dst v') w') :
    if Region.wanted o (yielded ops a.tmps) = true then Oper.wp Try.prog o a w K Q else E := by
  have hw : Region.wanted o (yielded ops a.tmps) = true := by simp [Region.wanted, hgd]
  rw [if_pos hw]
  obtain ⟨i0, hi, hz0, hz1, hz2⟩ := info_parts info_loose
  obtain ⟨v', w', hrun, r1, r2, _, r4⟩ := run_append_own_at (P := Try.prog) w base 47 o.type 66 i0 _ 2 16 Try.underlying47 hi hz0 hz1 hz2 rfl (by decide) v l.length (flatL l) hown ⟨G, 0, Option.none⟩ 1 c (encL y) rfl hc (fun u hu => by simp [encL] at hu; rcases hu with rfl | rfl <;> rfl) (by unfold maxLen; omega) (by omega) hbase
  unfold Oper.wp
  simp [execOp, ho, resolve, invoke, builtin, hs, hx, hrun, Result.andThen]
  refine hK v' w' ?_ r2 r4
  unfold LRow
  rw [flatL_app, List.length_append]
  exact r1
/-- The bytes stand where the block is as it was. -/
theorem SlA.chg {w w' : World} {v : Value} {l : List UInt8} {S : Nat → Prop} (h : SlA w v l) (hc : Chg S w w') (hs : ∀ g, v.ownBlock = some g → ¬ S g) : SlA w' v l := by
  obtain ⟨A, c, e, h2, h3, h4, h5⟩ := h
  refine ⟨A, c, e, h2, h3, fun h0 => ?_, h5⟩
  obtain ⟨b, off, e2, hh⟩ := h4 h0
  refine ⟨b, off, e2, fun i hi => ?_⟩
  rw [World.cell?_of_block (hc.block b (hh.lt h0) (hs b (by rw [e, e2]; rfl)))]
  exact hh i hi
/-- Another number of files made. -/
theorem Rk.next {w : World} {B rb nx : Nat} {fv lv : Value} {ms : List Rm} {ls : List Lm} {z : Int} (h : Rk w B rb fv lv ms ls z nx) (nx' : Nat) : Rk (w.setCell ⟨rb, 3, none⟩ (.int .i64 (nx' : Int))) B rb fv lv ms ls z nx' := by
  have ks : ∀ k, k ≠ rb → (w.setCell ⟨rb, 3, none⟩ (.int .i64 (nx' : Int))).heap[k]? = w.heap[k]? := fun k q => Below.heap_setCell _ _ _ _ q
  refine ⟨h.lo, h.blk.set 3 _, own_block0 h.fr fun g q => ks g ?_, own_block0 h.lr fun g q => ks g ?_, fun m hm => own_block0 (h.sr m hm) fun g q => ks g ?_, h.ap⟩
  · obtain ⟨cur, hc⟩ := own_blk h.fr q
    exact blk_ne0 hc h.blk (by decide)
  · obtain ⟨cur, hc⟩ := own_blk h.lr q
    exact blk_ne0 hc h.blk (by decide)
  · obtain ⟨cur, hc⟩ := own_blk (h.sr m hm) q
    exact blk_ne0 hc h.blk (by decide)
theorem flatM_set (P Q : List Rm) (m m' : Rm) (j : Nat) (x : Value) (hj : j < 4) (he : (encM m).set j x = encM m') : (flatM (P ++ m :: Q)).set (P.length * 4 + j) x = flatM (P ++ m' :: Q) := by
  have e : ∀ m : Rm, flatM (P ++ m :: Q) = flatM P ++ (encM m ++ flatM Q) := fun m => by rw [flatM_app]; rfl
  rw [e, e, List.set_append, if_neg (by rw [flatM_len]; omega), flatM_len, show P.length * 4 + j - P.length * 4 = j by omega, List.set_append, if_pos (by show j < 4; exact hj), he]
/-- A file's words are turned in their row; its bytes lie in a row of their own still. -/
theorem Rk.setm {w w1 : World} {B rb nx g n c : Nat} {lv : Value} {P Q : List Rm} {m m' : Rm} {ls : List Lm} {z : Int} {S : Nat → Prop} (h : Rk w B rb (.slice (some ⟨g, 0, none⟩) n c) lv (P ++ m :: Q) ls z nx) (hc : Chg S w w1)
    (hS : ∀ k, S k → m.sv.ownBlock = some k) (hm' : Row w1 B m'.sv m'.s) (hs : ∀ k, m'.sv.ownBlock = some k → m.sv.ownBlock = some k ∨ w.heap.size ≤ k) (j : Nat) (x : Value) (hj : j < 4) (he : (encM m).set j x = encM m') :
    Rk (w1.setCell ⟨g, P.length * 4 + j, none⟩ x) B rb (.slice (some ⟨g, 0, none⟩) n c) lv (P ++ m' :: Q) ls z nx ∧ Chg (Rt rb (.slice (some ⟨g, 0, none⟩) n c) lv (P ++ m :: Q)) w (w1.setCell ⟨g, P.length * 4 + j, none⟩ x) := by
  have hm : m ∈ P ++ m :: Q := by simp
  have hrm := h.sr m hm
  have hgb := own_blk h.fr (g := g) rfl
  obtain ⟨cg, hcg⟩ := hgb
  have nS : ∀ {k : Nat} {T : TypeId} {xs : Array Value}, Blk w k T xs → T ≠ 5 → ¬ S k := fun {k T xs} hb hT q => by
    obtain ⟨cur, hcu⟩ := own_blk hrm (hS k q)
    exact blk_ne0 hb hcu hT rfl
  have ks : ∀ k, k ≠ g → (w1.setCell ⟨g, P.length * 4 + j, none⟩ x).heap[k]? = w1.heap[k]? := fun k q => Below.heap_setCell _ _ _ _ q
  have hfr1 : MRow w1 B (.slice (some ⟨g, 0, none⟩) n c) (P ++ m :: Q) := own_block0 h.fr fun k q => by
    obtain rfl : g = k := by injection q
    exact hc.block _ hcg.lt (nS hcg (by decide))
  have hn : n = (P ++ m :: Q).length := by
    rcases h.fr.2 with ⟨e, e2⟩ | ⟨_, _, _, e, _⟩
    · cases e
    · injection e
  have hfr2 := own_set (n := (P ++ m :: Q).length) (by rw [hn] at hfr1; exact hfr1) (P.length * 4 + j) x
  rw [flatM_set P Q m m' j x hj he] at hfr2
  have hb1 : Blk w1 rb 49 #[.slice (some ⟨g, 0, none⟩) n c, lv, .int .i64 z, .int .i64 (nx : Int)] := (hc.block rb h.blk.lt (nS h.blk (by decide))).trans h.blk
  have hcg1 : Blk w1 g 64 cg := (hc.block g hcg.lt (nS hcg (by decide))).trans hcg
  have mem' : ∀ a ∈ P ++ m' :: Q, a = m' ∨ a ∈ P ++ Q := fun a ha => by
    rcases List.mem_append.1 ha with r | r
    · exact .inr (List.mem_append_left _ r)
    · rcases List.mem_cons.1 r with r | r
      · exact .inl r
      · exact .inr (List.mem_append_right _ r)
  obtain ⟨p1, p2, p3⟩ := List.pairwise_append.1 h.ap
  obtain ⟨p4, p5⟩ := List.pairwise_cons.1 p2
  have old : ∀ a ∈ P ++ Q, ∀ k, a.sv.ownBlock = some k → k < w.heap.size ∧ m.sv.ownBlock ≠ some k := fun a ha k q => by
    refine ⟨(World.ownsRow.lt (h.sr a (mem_mid2 ha)) k q).2, fun e => ?_⟩
    rcases List.mem_append.1 ha with r | r
    · exact p3 a r m List.mem_cons_self k q e
    · exact p4 a r k e q
  refine ⟨⟨h.lo, ?_, ?_, ?_, fun a ha => ?_, ?_⟩, ?_⟩
  · exact (ks rb fun e => blk_ne0 h.blk hcg (by decide) e).trans hb1
  · unfold MRow
    rw [show (P ++ m' :: Q).length = (P ++ m :: Q).length by simp, hn]
    exact hfr2
  · refine own_block0 h.lr fun k q => ?_
    obtain ⟨cur, hcu⟩ := own_blk h.lr q
    exact (ks k (blk_ne0 hcu hcg (by decide))).trans (hc.block k hcu.lt (nS hcu (by decide)))
  · rcases mem' a ha with rfl | r
    · refine own_block0 hm' fun k q => ks k ?_
      obtain ⟨cur, hcu⟩ := own_blk hm' q
      exact blk_ne0 hcu hcg1 (by decide)
    · refine own_block0 (h.sr a (mem_mid2 r)) fun k q => ?_
      obtain ⟨cur, hcu⟩ := own_blk (h.sr a (mem_mid2 r)) q
      exact (ks k (blk_ne0 hcu hcg (by decide))).trans (hc.block k hcu.lt fun q2 => (old a r k q).2 (hS k q2))
  · have new : ∀ a ∈ P ++ Q, ∀ k, a.sv.ownBlock = some k → m'.sv.ownBlock ≠ some k := fun a ha k q e => by
      obtain ⟨o1, o2⟩ := old a ha k q
      rcases hs k e with r | r
      · exact o2 r
      · omega
    refine List.pairwise_append.2 ⟨p1, List.pairwise_cons.2 ⟨fun b hb k q e => new b (List.mem_append_right _ hb) k e q, p5⟩, fun a ha b hb => ?_⟩
    rcases List.mem_cons.1 hb with rfl | hb
    · exact fun k q => new a (List.mem_append_left _ ha) k q
    · exact p3 a ha b (List.mem_cons_of_mem _ hb)
  · exact (hc.mono fun k q => .inr (.inr (.inr ⟨m, hm, hS k q⟩))).trans (Chg.of_set w1 g _ x (S := Rt rb (.slice (some ⟨g, 0, none⟩) n c) lv (P ++ m :: Q)) (.inr (.inl rfl))) fun k q => .inl q
end Go.Proofs.Ytofkfafdodhmdaa
