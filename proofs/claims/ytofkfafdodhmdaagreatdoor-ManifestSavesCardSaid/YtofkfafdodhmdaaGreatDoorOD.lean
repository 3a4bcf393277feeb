/- Several texts in one: SuQ SuR SuS. Conditions: as each theorem names them. -/
import Derived.Test.YtofkfafdodhmdaaGreatDoorOC
import Derived.Test.YtofkfafdodhmdaaGreatDoorSuRa
import Derived.Deep.RegionHeld3
import Derived.Test.YtofkfafdodhmdaaGreatDoorNF
/- How many bytes don't last, sizes, a file's bytes: our files and the document's. Conditions: none. -/
namespace Go.Proofs.YtofkfafdodhmdaaGreatDoor
open Go.RowKit

theorem sum_two {α : Type} (f g : α → Nat) : ∀ l : List α, (l.map fun x => f x + g x).sum = (l.map f).sum + (l.map g).sum
  | [] => rfl
  | a :: t => by simp only [List.map_cons, List.sum_cons, sum_two f g t]; omega
theorem sum_congr {α : Type} {f g : α → Nat} : ∀ {l : List α}, (∀ x ∈ l, f x = g x) → (l.map f).sum = (l.map g).sum
  | [], _ => rfl
  | a :: t, h => by simp only [List.map_cons, List.sum_cons]; rw [h a List.mem_cons_self, sum_congr fun x hx => h x (List.mem_cons_of_mem _ hx)]
theorem sum_zero {α : Type} {f : α → Nat} : ∀ {l : List α}, (∀ x ∈ l, f x = 0) → (l.map f).sum = 0
  | [], _ => rfl
  | a :: t, h => by simp only [List.map_cons, List.sum_cons]; rw [h a List.mem_cons_self, sum_zero fun x hx => h x (List.mem_cons_of_mem _ hx)]
theorem ind_zero {n : Nat} : ∀ {ns : List Nat}, n ∉ ns → (ns.map fun k => if n = k then 1 else 0).sum = 0
  | [], _ => rfl
  | a :: t, h => by
    rw [List.map_cons, List.sum_cons, if_neg (fun e => h (by rw [e]; exact List.mem_cons_self)), ind_zero fun q => h (List.mem_cons_of_mem _ q)]
theorem ind_one {n : Nat} : ∀ {ns : List Nat}, ns.Nodup → n ∈ ns → (ns.map fun k => if n = k then 1 else 0).sum = 1
  | a :: t, h, hn => by
    obtain ⟨h1, h2⟩ := List.nodup_cons.1 h
    rw [List.map_cons, List.sum_cons]
    by_cases q : n = a
    · subst q
      rw [if_pos rfl, ind_zero h1]
    · rw [if_neg q]
      rcases List.mem_cons.1 hn with e | e
      · exact absurd e q
      · rw [ind_one h2 e]
theorem byOf_cons (z : Lz) (lt : List Lz) (n : Nat) : (byOf (z :: lt) n).length = (if z.no = n then 1 else 0) + (byOf lt n).length := by
  unfold byOf
  rw [List.filter_cons]
  unfold isNo
  by_cases q : z.no = n
  · rw [if_pos (decide_eq_true q), if_pos q, List.map_cons, List.length_cons, Nat.add_comm]
  · rw [if_neg (by simpa using q), if_neg q, Nat.zero_add]
/-- Each byte that doesn't last is one file's. -/
theorem by_all {ns : List Nat} (hn : ns.Nodup) : ∀ {lt : List Lz}, (∀ z ∈ lt, z.no ∈ ns) → (ns.map fun n => (byOf lt n).length).sum = lt.length
  | [], _ => sum_zero fun n _ => rfl
  | z :: lt, h => by
    rw [sum_congr (g := fun n => (if z.no = n then 1 else 0) + (byOf lt n).length) (fun n _ => byOf_cons z lt n), sum_two, ind_one hn (h z List.mem_cons_self), by_all hn fun y hy => h y (List.mem_cons_of_mem _ hy), List.length_cons, Nat.add_comm]
theorem ag_by {ps : Ps} {lt : List Lz} {u nx : Nat} (h : Ag ps lt u nx) : (ps.map fun p => (byOf lt p.2).length).sum = lt.length := by
  have := by_all h.nd (lt := lt) fun z hz => by
    obtain ⟨_, p, hp, e⟩ := h.lo z hz
    rw [← e]
    exact List.mem_map_of_mem hp
  rw [List.map_map] at this
  exact this
theorem ag_loose {ps : Ps} {lt : List Lz} {u nx : Nat} (h : Ag ps lt u nx) : looseV (ps.map Prod.fst) = lt.length := by
  rw [← ag_by h]
  unfold looseV
  rw [List.map_map]
  refine sum_congr fun p hp => ?_
  obtain ⟨_, h2, _⟩ := h.f p hp
  rw [h2, List.length_drop]
  rfl
theorem ag_size {ps : Ps} {lt : List Lz} {u nx : Nat} (h : Ag ps lt u nx) : sizeV (ps.map Prod.fst) = lt.length + ((ps.map mkR).map fun r => r.s.length).sum := by
  rw [← ag_by h, List.map_map, ← sum_two]
  unfold sizeV
  rw [List.map_map]
  refine sum_congr fun p hp => ?_
  obtain ⟨h1, h2, _⟩ := h.f p hp
  show p.1.d.length = _ + (p.1.d.take p.1.m).length
  rw [h2, List.length_drop, List.length_take]
  omega
/-- A byte that doesn't last, as the document has it. -/
def lzm (z : Lz) : Lm := (z.no, z.x)
theorem bytesM_lz (lt : List Lz) (no : Nat) : bytesM (lt.map lzm) no = byOf lt no := by
  unfold bytesM byOf
  rw [List.filter_map, List.map_map]
  rfl
theorem outM_lz (lt : List Lz) (no : Nat) : outM (lt.map lzm) no = (outZ lt no).map lzm := by
  unfold outM outZ
  rw [List.filter_map]
  rfl
theorem ms_mid {A C : Ps} {p : Fv × Nat} {ms : List Rm} (h : ms.map Rm.r = (A ++ p :: C).map mkR) : ∃ P m Q, ms = P ++ m :: Q ∧ P.map Rm.r = A.map mkR ∧ m.r = mkR p ∧ Q.map Rm.r = C.map mkR := by
  rw [List.map_append, List.map_cons] at h
  obtain ⟨P, T, rfl, h1, h2⟩ := List.map_eq_append_iff.1 h
  obtain ⟨m, Q, rfl, h3, h4⟩ := List.map_eq_cons_iff.1 h2
  exact ⟨P, m, Q, rfl, h1, h3, h4⟩
theorem ms_app {A C : Ps} {ms : List Rm} (h : ms.map Rm.r = (A ++ C).map mkR) : ∃ P Q, ms = P ++ Q ∧ P.map Rm.r = A.map mkR ∧ Q.map Rm.r = C.map mkR := by
  rw [List.map_append] at h
  obtain ⟨P, T, rfl, h1, h2⟩ := List.map_eq_append_iff.1 h
  exact ⟨P, T, rfl, h1, h2⟩
theorem ms_name {A : Ps} {P : List Rm} (h : P.map Rm.r = A.map mkR) : P.map Rm.n = A.map fun p => p.1.n := by
  have := congrArg (List.map Rs.n) h
  rw [List.map_map, List.map_map] at this
  exact this
theorem ms_each {A : Ps} {P : List Rm} (h : P.map Rm.r = A.map mkR) {F : ByteArray → Prop} (hA : ∀ a ∈ A, F a.1.n) : ∀ m ∈ P, F m.n := fun m hm => by
  have : m.n ∈ P.map Rm.n := List.mem_map_of_mem hm
  rw [ms_name h] at this
  obtain ⟨a, ha, e⟩ := List.mem_map.1 this
  rw [← e]
  exact hA a ha
theorem ms_ris {ps : Ps} {ms : List Rm} (h : ms.map Rm.r = ps.map mkR) (hr : RisV (ps.map Prod.fst)) : RisM ms := by
  have h1 : (ps.map fun p => p.1.n).Pairwise fun a b => bef a b = true := List.pairwise_map.2 (List.pairwise_map.1 hr)
  rw [← ms_name h] at h1
  exact List.pairwise_map.1 h1
theorem ms_size {ps : Ps} {ms : List Rm} {lt : List Lz} {u nx : Nat} (h : ms.map Rm.r = ps.map mkR) (ha : Ag ps lt u nx) : sizeM ms (lt.map lzm) = sizeV (ps.map Prod.fst) := by
  rw [ag_size ha, ← h, List.map_map]
  unfold sizeM
  rw [List.length_map]
  rfl
theorem ms_len {ps : Ps} {ms : List Rm} (h : ms.map Rm.r = ps.map mkR) : ms.length = ps.length := by
  have := congrArg List.length h
  rw [List.length_map, List.length_map] at this
  exact this
/-- All that a file has. -/
theorem ag_all {ps : Ps} {lt : List Lz} {u nx : Nat} (h : Ag ps lt u nx) {p : Fv × Nat} (hp : p ∈ ps) : (mkR p).s ++ byOf lt p.2 = p.1.d := by
  obtain ⟨_, h2, _⟩ := h.f p hp
  rw [h2]
  exact List.take_append_drop _ _
theorem qs_of : ∀ {fs : List Fl} {ps : Ps}, viewF fs = ps.map Prod.fst → ∃ qs : Qs, fsOf qs = fs ∧ psOf qs = ps
  | [], [], _ => ⟨[], rfl, rfl⟩
  | [], p :: ps, h => by cases h
  | f :: fs, [], h => by cases h
  | f :: fs, p :: ps, h => by
    have h' : f.v :: viewF fs = p.1 :: ps.map Prod.fst := h
    injection h' with h1 h2
    obtain ⟨qs, h3, h4⟩ := qs_of h2
    refine ⟨(f, p.2) :: qs, ?_, ?_⟩
    · show f :: fsOf qs = f :: fs
      rw [h3]
    · show (f.v, p.2) :: psOf qs = p :: ps
      rw [h4, h1]
theorem ps_fst (qs : Qs) : (psOf qs).map Prod.fst = viewF (fsOf qs) := by
  unfold psOf viewF fsOf
  rw [List.map_map, List.map_map]
  rfl
theorem partP (x : ByteArray) {ps : Ps} (h : RisV (ps.map Prod.fst)) : (∃ A f no C, ps = A ++ (f, no) :: C ∧ f.n = x) ∨ (∃ A C, ps = A ++ C ∧ (∀ a ∈ A, bef a.1.n x = true) ∧ ∀ c ∈ C, bef x c.1.n = true) := by
  rcases partV x h with ⟨A, f, C, e, hn⟩ | ⟨A, C, e, hA, hC⟩
  · obtain ⟨A', T, rfl, h1, h2⟩ := List.map_eq_append_iff.1 e
    obtain ⟨⟨f', no⟩, C', rfl, h3, h4⟩ := List.map_eq_cons_iff.1 h2
    exact .inl ⟨A', f', no, C', rfl, by rw [show f' = f from h3]; exact hn⟩
  · obtain ⟨A', C', rfl, h1, h2⟩ := List.map_eq_append_iff.1 e
    refine .inr ⟨A', C', rfl, fun a ha => hA _ (by rw [← h1]; exact List.mem_map_of_mem ha), fun c hc => hC _ (by rw [← h2]; exact List.mem_map_of_mem hc)⟩
end Go.Proofs.YtofkfafdodhmdaaGreatDoor

/- Appends as steps of a region that draws; files that are turned in their row. Conditions: none. -/
namespace Go.Proofs.YtofkfafdodhmdaaGreatDoor
open Go.RowKit

/-- append of a slice whatever, as one step of a region that draws. -/
theorem step_append_row {ops : Array Oper} {o : Oper} {a : Act} {K : Act → World → Prop} {Q : Exit → Act → World → Prop} {E : Prop} (hgd : o.guard = Option.none) (s x : Operand)
    (ho : o.op = .call { callee := .builtin .append, args := #[s, x], argTypes := #[25, 25] }) (hty : o.type = 25)
    (w : World) (base : Nat) (v : Value) (l : List UInt8) (hs : a.eval s = v) (hown : Row w base v l)
    (A : Option Addr) (m c : Nat) (news : List UInt8) (hm : news.length = m) (hx : a.eval x = .slice A m c) (hnews : HoldsA w A news)
    (hlen : l.length + news.length ≤ 100000000) (hbase : base ≤ w.heap.size)
    (hK : ∀ v' w', Row w' base v' (l ++ news) → w.grownBy w' v.ownBlock → (v'.ownBlock = v.ownBlock ∨ v'.ownBlock = some w.heap.size) → K (a.put o.dst v') w') :
    if Region.wanted o (yielded ops a.tmps) = true then Oper.wp Tryz.prog o a w K Q else E := by
  have hw : Region.wanted o (yielded ops a.tmps) = true := by simp [Region.wanted, hgd]
  rw [if_pos hw]
  subst hm
  obtain ⟨v', w', hrun, r1, r2, r3⟩ := run_append_row w base v l hown A c news hnews hlen hbase
  unfold Oper.wp
  simp [execOp, ho, hty, resolve, invoke, builtin, hs, hx, hrun, Result.andThen]
  exact hK v' w' r1 r2 r3
/-- append of a byte that doesn't last, as one step of a region that draws. -/
theorem step_append_lz {ops : Array Oper} {o : Oper} {a : Act} {K : Act → World → Prop} {Q : Exit → Act → World → Prop} {E : Prop} (hgd : o.guard = Option.none) (s x : Operand)
    (ho : o.op = .call { callee := .builtin .append, args := #[s, x], argTypes := #[92, 92] })
    (w : World) (base : Nat) (v : Value) (l : List Lm) (hs : a.eval s = v) (hown : LRow w base v l)
    (G c : Nat) (y : Lm) (hx : a.eval x = .slice (some ⟨G, 0, Option.none⟩) 1 c) (hc : ∀ j u, (encL y)[j]? = some u → w.cell? ((⟨G, 0, Option.none⟩ : Addr).add j) = some u)
    (hlen : l.length ≤ 100000000) (hbase : base ≤ w.heap.size)
    (hK : ∀ v' w', LRow w' base v' (l ++ [y]) → w.grownBy w' v.ownBlock → (v'.ownBlock = v.ownBlock ∨ v'.ownBlock = some w.heap.size) → K (a.put o.dst v') w') :
    if Region.wanted o (yielded ops a.tmps) = true then Oper.wp Tryz.prog o a w K Q else E := by
  have hw : Region.wanted o (yielded ops a.tmps) = true := by simp [Region.wanted, hgd]
  rw [if_pos hw]
  obtain ⟨i0, hi, hz0, hz1, hz2⟩ := info_parts info_loose
  obtain ⟨v', w', hrun, r1, r2, _, r4⟩ := run_append_own_at (P := Tryz.prog) w base 92 o.type 111 i0 _ 2 16 Tryz.underlying92 hi hz0 hz1 hz2 rfl (by decide) v l.length (flatL l) hown ⟨G, 0, Option.none⟩ 1 c (encL y) rfl hc (fun u hu => by simp [encL] at hu; rcases hu with rfl | rfl <;> rfl) (by unfold maxLen; omega) (by omega) hbase
  unfold Oper.wp
  simp [execOp, ho, resolve, invoke, builtin, hs, hx, hrun, Result.andThen]
  refine hK v' w' ?_ r2 r4
  unfold LRow
  rw [flatL_app, List.length_append]
  exact r1
/-- The bytes stand where the block is as it was. -/
theorem SlA.chg {w w' : World} {v : Value} {l : List UInt8} {S : Nat → Prop} (h : SlA w v l) (hc : Chg S w w') (hs : ∀ g, v.ownBlock = some g → ¬ S g) : SlA w' v l := by
  obtain ⟨A, c, e, h2, h3, h4, h5⟩ := h
  refine ⟨A, c, e, h2, h3, fun h0 => ?_, h5⟩
  obtain ⟨b, off, e2, hh⟩ := h4 h0
  refine ⟨b, off, e2, fun i hi => ?_⟩
  rw [World.cell?_of_block (hc.block b (hh.lt h0) (hs b (by rw [e, e2]; rfl)))]
  exact hh i hi
/-- Another number of files made. -/
theorem Rk.next {w : World} {B rb nx : Nat} {fv lv : Value} {ms : List Rm} {ls : List Lm} {z : Int} (h : Rk w B rb fv lv ms ls z nx) (nx' : Nat) : Rk (w.setCell ⟨rb, 3, none⟩ (.int .i64 (nx' : Int))) B rb fv lv ms ls z nx' := by
  have ks : ∀ k, k ≠ rb → (w.setCell ⟨rb, 3, none⟩ (.int .i64 (nx' : Int))).heap[k]? = w.heap[k]? := fun k q => Below.heap_setCell _ _ _ _ q
  refine ⟨h.lo, h.blk.set 3 _, own_block0 h.fr fun g q => ks g ?_, own_block0 h.lr fun g q => ks g ?_, fun m hm => own_block0 (h.sr m hm) fun g q => ks g ?_, h.ap⟩
  · obtain ⟨cur, hc⟩ := own_blk h.fr q
    exact blk_ne0 hc h.blk (by decide)
  · obtain ⟨cur, hc⟩ := own_blk h.lr q
    exact blk_ne0 hc h.blk (by decide)
  · obtain ⟨cur, hc⟩ := own_blk (h.sr m hm) q
    exact blk_ne0 hc h.blk (by decide)
theorem flatM_set (P Q : List Rm) (m m' : Rm) (j : Nat) (x : Value) (hj : j < 4) (he : (encM m).set j x = encM m') : (flatM (P ++ m :: Q)).set (P.length * 4 + j) x = flatM (P ++ m' :: Q) := by
  have e : ∀ m : Rm, flatM (P ++ m :: Q) = flatM P ++ (encM m ++ flatM Q) := fun m => by rw [flatM_app]; rfl
  rw [e, e, List.set_append, if_neg (by rw [flatM_len]; omega), flatM_len, show P.length * 4 + j - P.length * 4 = j by omega, List.set_append, if_pos (by show j < 4; exact hj), he]
/-- A file's words are turned in their row; its bytes lie in a row of their own still. -/
theorem Rk.setm {w w1 : World} {B rb nx g n c : Nat} {lv : Value} {P Q : List Rm} {m m' : Rm} {ls : List Lm} {z : Int} {S : Nat → Prop} (h : Rk w B rb (.slice (some ⟨g, 0, none⟩) n c) lv (P ++ m :: Q) ls z nx) (hc : Chg S w w1)
    (hS : ∀ k, S k → m.sv.ownBlock = some k) (hm' : Row w1 B m'.sv m'.s) (hs : ∀ k, m'.sv.ownBlock = some k → m.sv.ownBlock = some k ∨ w.heap.size ≤ k) (j : Nat) (x : Value) (hj : j < 4) (he : (encM m).set j x = encM m') :
    Rk (w1.setCell ⟨g, P.length * 4 + j, none⟩ x) B rb (.slice (some ⟨g, 0, none⟩) n c) lv (P ++ m' :: Q) ls z nx ∧ Chg (Rt rb (.slice (some ⟨g, 0, none⟩) n c) lv (P ++ m :: Q)) w (w1.setCell ⟨g, P.length * 4 + j, none⟩ x) := by
  have hm : m ∈ P ++ m :: Q := by simp
  have hrm := h.sr m hm
  have hgb := own_blk h.fr (g := g) rfl
  obtain ⟨cg, hcg⟩ := hgb
  have nS : ∀ {k : Nat} {T : TypeId} {xs : Array Value}, Blk w k T xs → T ≠ 5 → ¬ S k := fun {k T xs} hb hT q => by
    obtain ⟨cur, hcu⟩ := own_blk hrm (hS k q)
    exact blk_ne0 hb hcu hT rfl
  have ks : ∀ k, k ≠ g → (w1.setCell ⟨g, P.length * 4 + j, none⟩ x).heap[k]? = w1.heap[k]? := fun k q => Below.heap_setCell _ _ _ _ q
  have hfr1 : MRow w1 B (.slice (some ⟨g, 0, none⟩) n c) (P ++ m :: Q) := own_block0 h.fr fun k q => by
    obtain rfl : g = k := by injection q
    exact hc.block _ hcg.lt (nS hcg (by decide))
  have hn : n = (P ++ m :: Q).length := by
    rcases h.fr.2 with ⟨e, e2⟩ | ⟨_, _, _, e, _⟩
    · cases e
    · injection e
  have hfr2 := own_set (n := (P ++ m :: Q).length) (by rw [hn] at hfr1; exact hfr1) (P.length * 4 + j) x
  rw [flatM_set P Q m m' j x hj he] at hfr2
  have hb1 : Blk w1 rb 94 #[.slice (some ⟨g, 0, none⟩) n c, lv, .int .i64 z, .int .i64 (nx : Int)] := (hc.block rb h.blk.lt (nS h.blk (by decide))).trans h.blk
  have hcg1 : Blk w1 g 109 cg := (hc.block g hcg.lt (nS hcg (by decide))).trans hcg
  have mem' : ∀ a ∈ P ++ m' :: Q, a = m' ∨ a ∈ P ++ Q := fun a ha => by
    rcases List.mem_append.1 ha with r | r
    · exact .inr (List.mem_append_left _ r)
    · rcases List.mem_cons.1 r with r | r
      · exact .inl r
      · exact .inr (List.mem_append_right _ r)
  obtain ⟨p1, p2, p3⟩ := List.pairwise_append.1 h.ap
  obtain ⟨p4, p5⟩ := List.pairwise_cons.1 p2
  have old : ∀ a ∈ P ++ Q, ∀ k, a.sv.ownBlock = some k → k < w.heap.size ∧ m.sv.ownBlock ≠ some k := fun a ha k q => by
    refine ⟨(World.ownsRow.lt (h.sr a (mem_mid2 ha)) k q).2, fun e => ?_⟩
    rcases List.mem_append.1 ha with r | r
    · exact p3 a r m List.mem_cons_self k q e
    · exact p4 a r k e q
  refine ⟨⟨h.lo, ?_, ?_, ?_, fun a ha => ?_, ?_⟩, ?_⟩
  · exact (ks rb fun e => blk_ne0 h.blk hcg (by decide) e).trans hb1
  · unfold MRow
    rw [show (P ++ m' :: Q).length = (P ++ m :: Q).length by simp, hn]
    exact hfr2
  · refine own_block0 h.lr fun k q => ?_
    obtain ⟨cur, hcu⟩ := own_blk h.lr q
    exact (ks k (blk_ne0 hcu hcg (by decide))).trans (hc.block k hcu.lt (nS hcu (by decide)))
  · rcases mem' a ha with rfl | r
    · refine own_block0 hm' fun k q => ks k ?_
      obtain ⟨cur, hcu⟩ := own_blk hm' q
      exact blk_ne0 hcu hcg1 (by decide)
    · refine own_block0 (h.sr a (mem_mid2 r)) fun k q => ?_
      obtain ⟨cur, hcu⟩ := own_blk (h.sr a (mem_mid2 r)) q
      exact (ks k (blk_ne0 hcu hcg (by decide))).trans (hc.block k hcu.lt fun q2 => (old a r k q).2 (hS k q2))
  · have new : ∀ a ∈ P ++ Q, ∀ k, a.sv.ownBlock = some k → m'.sv.ownBlock ≠ some k := fun a ha k q e => by
      obtain ⟨o1, o2⟩ := old a ha k q
      rcases hs k e with r | r
      · exact o2 r
      · omega
    refine List.pairwise_append.2 ⟨p1, List.pairwise_cons.2 ⟨fun b hb k q e => new b (List.mem_append_right _ hb) k e q, p5⟩, fun a ha b hb => ?_⟩
    rcases List.mem_cons.1 hb with rfl | hb
    · exact fun k q => new a (List.mem_append_left _ ha) k q
    · exact p3 a ha b (List.mem_cons_of_mem _ hb)
  · exact (hc.mono fun k q => .inr (.inr (.inr ⟨m, hm, hS k q⟩))).trans (Chg.of_set w1 g _ x (S := Rt rb (.slice (some ⟨g, 0, none⟩) n c) lv (P ++ m :: Q)) (.inr (.inl rfl))) fun k q => .inl q
end Go.Proofs.YtofkfafdodhmdaaGreatDoor

/- The document's Write where it writes. Conditions: the disk stands. -/
namespace Go.Proofs.YtofkfafdodhmdaaGreatDoor
open Go.RowKit

/-- What a round reads. -/
abbrev LzS (rb g i bb o : Nat) (fv lv : Value) (no x : Int) (W : World) : Prop := W.cell? ⟨rb, 0, none⟩ = some fv ∧ W.cell? ⟨rb, 1, none⟩ = some lv ∧ W.cell? ⟨g, i * 4 + 1, none⟩ = some (.int .i64 no) ∧ W.cell? ⟨bb, o, none⟩ = some (.int .u8 x) ∧ W.frozen? ⟨rb, 1, none⟩ = false
theorem lzs_grown {W W' : World} {rb g i bb o : Nat} {fv lv : Value} {no x : Int} {r : Option Nat} (h : LzS rb g i bb o fv lv no x W) (hg : W.grownBy W' r) (hr : ∀ q, r = some q → q ≠ rb ∧ q ≠ g ∧ q ≠ bb) : LzS rb g i bb o fv lv no x W' := by
  obtain ⟨h0, h1, h2, h3, h4⟩ := h
  have k0 : W'.heap[rb]? = W.heap[rb]? := hg.block rb (cell_lt h0) fun e => (hr rb e.symm).1 rfl
  exact ⟨(World.cell?_of_block (a := ⟨rb, 0, none⟩) k0).trans h0, (World.cell?_of_block (a := ⟨rb, 1, none⟩) k0).trans h1, (World.cell?_of_block (a := ⟨g, i * 4 + 1, none⟩) (hg.block g (cell_lt h2) fun e => (hr g e.symm).2.1 rfl)).trans h2, (World.cell?_of_block (a := ⟨bb, o, none⟩) (hg.block bb (cell_lt h3) fun e => (hr bb e.symm).2.2 rfl)).trans h3, (World.frozen?_of_block (a := ⟨rb, 1, none⟩) k0).trans h4⟩
theorem lzs_below {W W' : World} {rb g i bb o : Nat} {fv lv : Value} {no x : Int} (h : LzS rb g i bb o fv lv no x W) (hb : Below W.heap.size W W') : LzS rb g i bb o fv lv no x W' := lzs_grown (r := none) h ⟨hb.os, hb.tape, hb.output, hb.size, fun k hk _ => hb.block k hk⟩ fun q e => (by cases e)
/-- One byte more that doesn't last. -/
theorem rke_lz {w wr w1 w2 : World} {B rb nx : Nat} {fv lv fv' lv' v2 : Value} {ms ms' : List Rm} {ls' ls2 : List Lm} {z : Int} (h : RkE w wr B rb fv lv ms fv' lv' ms' ls' z nx) (hb : Below wr.heap.size wr w1) (hr : LRow w2 B v2 ls2) (hg : w1.grownBy w2 lv'.ownBlock) (hl : v2.ownBlock = lv'.ownBlock ∨ v2.ownBlock = some w1.heap.size) :
    RkE w (w2.setCell ⟨rb, 1, none⟩ v2) B rb fv lv ms fv' v2 ms' ls2 z nx := by
  refine ⟨h.rk.bytes (fun k q => ?_) hr, h.ch.trans (((Chg.of_below (Rt rb fv' lv' ms') hb).trans (Chg.of_grown (S := Rt rb fv' lv' ms') hg fun k e => .inl (.inr (.inr (.inl e)))) fun k q => .inl q).trans (Chg.of_set w2 rb 1 v2 (S := Rt rb fv' lv' ms') (.inl rfl)) fun k q => .inl q) h.sub, fun k q => ?_⟩
  · have hk : k < wr.heap.size ∧ lv'.ownBlock ≠ some k := by
      rcases q with rfl | q | q | ⟨m, hm, q⟩
      · refine ⟨h.rk.blk.lt, fun e => ?_⟩
        obtain ⟨cur, hc⟩ := own_blk h.rk.lr e
        exact blk_ne0 hc h.rk.blk (by decide) rfl
      · obtain ⟨cur, hc⟩ := own_blk h.rk.fr q
        refine ⟨hc.lt, fun e => ?_⟩
        obtain ⟨cur2, hc2⟩ := own_blk h.rk.lr e
        exact blk_ne0 hc2 hc (by decide) rfl
      · cases q
      · obtain ⟨cur, hc⟩ := own_blk (h.rk.sr m hm) q
        refine ⟨hc.lt, fun e => ?_⟩
        obtain ⟨cur2, hc2⟩ := own_blk h.rk.lr e
        exact blk_ne0 hc2 hc (by decide) rfl
    exact (hg.block k (Nat.lt_of_lt_of_le hk.1 hb.size) fun e => hk.2 e.symm).trans (hb.block k hk.1)
  · rcases q with q | q | q | q
    · exact h.sub k (.inl q)
    · exact h.sub k (.inr (.inl q))
    · rcases hl with r | r
      · exact h.sub k (.inr (.inr (.inl (r ▸ q))))
      · rw [r] at q
        have := Option.some.inj q
        have h1 := h.ch.size
        have h2 := hb.size
        exact .inr (by omega)
    · exact h.sub k (.inr (.inr (.inr q)))
theorem sla_lt {w : World} {v : Value} {l : List UInt8} (h : SlA w v l) : ∀ k, v.ownBlock = some k → l.length = 0 ∨ k < w.heap.size := fun k hk => by
  obtain ⟨A, c, rfl, _, _, h4, _⟩ := h
  rcases Nat.eq_zero_or_pos l.length with e | e
  · exact .inl e
  · obtain ⟨b, off, rfl, hh⟩ := h4 e
    obtain rfl : b = k := by injection hk
    exact .inr (hh.lt e)
theorem lz_more (ls : List Lm) (b : List UInt8) (no k : Nat) (hk : k < b.length) : (ls ++ (b.take (k + 1)).map fun y => (no, y)) = (ls ++ (b.take k).map fun y => (no, y)) ++ [(no, b[k])] := by
  rw [List.take_succ_eq_append_getElem hk, List.map_append, List.append_assoc]
  rfl
theorem lz_new (W : World) (no : Nat) (y : UInt8) : ∀ j u, (encL (no, y))[j]? = some u → (W.alloc (.cells #[.int .i64 (no : Int), .int .u8 (y.toNat : Int)] 111)).cell? ((⟨W.heap.size, 0, Option.none⟩ : Addr).add j) = some u := fun j u hu => by
  rw [add_zero_off, Nat.zero_add, (Blk.new W 111 #[.int .i64 (no : Int), .int .u8 (y.toNat : Int)]).cell j, ← Array.getElem?_toList]
  exact hu

set_option maxRecDepth 100000 in
set_option maxHeartbeats 8000000 in
theorem rwrite_yes {w : World} {B rb nx : Nat} {fv lv : Value} {P Q : List Rm} {m : Rm} {ls : List Lm} {z : Int} (h : Rk w B rb fv lv (P ++ m :: Q) ls z nx) (hx : rightB m.n = true) (hn : ∀ m' ∈ P ++ m :: Q, m'.n.size ≤ maxLen) (hl : (P ++ m :: Q).length ≤ 100000) (hr : RisM (P ++ m :: Q)) (hz : 0 ≤ z ∧ z ≤ 16777216) (v : Value) (b : List UInt8) (hv : SlA w v b) (hvb : 0 < b.length → ∀ k, v.ownBlock = some k → ¬ Rt rb fv lv (P ++ m :: Q) k) (hf : (sizeM (P ++ m :: Q) ls : Int) + (b.length : Int) ≤ z) (hls : ls.length + b.length ≤ 1000000) :
    Calls Tryz.prog 25 #[.pointer (some ⟨rb, 0, none⟩), .string m.n, v] w fun e w' => e = .returned (.int .i64 0) ∧ ∃ lv', RkE w w' B rb fv lv (P ++ m :: Q) fv lv' (P ++ m :: Q) (ls ++ b.map fun y => (m.no, y)) z nx := by
  obtain ⟨x1, x2⟩ := right_in hx
  have HX : Hid (m.n.size ≤ maxLen) := by unfold Hid maxLen; omega
  have HF := hid fun W (hW : Below w.heap.size w W) => rfind_ok (h.below hW) m.n HX.out hn (by omega)
  have HFE := hid fun i ok (hE : FindE m.n (P ++ m :: Q) i ok) => find_yes hE hr rfl
  have hsz : sizeM (P ++ m :: Q) ls ≤ 16777216 := by omega
  have HSz := hid fun k => rsize_same (h.drewN k) (by omega) (by omega)
  have m2 : w.cell? ⟨rb, 2, none⟩ = some (.int .i64 z) := h.blk.cell 2
  obtain ⟨s, hs⟩ : ∃ s, sizeM (P ++ m :: Q) ls = s := ⟨_, rfl⟩
  rw [hs] at HSz hf hsz
  obtain ⟨n, hnn⟩ : ∃ n, b.length = n := ⟨_, rfl⟩
  have HN := hid hnn
  have HV := hid hv
  have HVb := hid hvb
  have HVl : Hid (∀ k, v.ownBlock = some k → b.length = 0 ∨ k < w.heap.size) := sla_lt hv
  have HLs := hid hls
  obtain ⟨A, c, rfl, _⟩ := hv
  rw [hnn] at hf HV HVb HVl ⊢
  have hlen : P.length < (P ++ m :: Q).length := by simp
  obtain ⟨nf, hnf⟩ : ∃ nf, (P ++ m :: Q).length = nf := ⟨_, rfl⟩
  obtain ⟨Af, cf, rfl⟩ := mrow_form h.fr hnf
  obtain ⟨g, rfl, _⟩ := mrow_at h.fr hlen
  rw [hnf] at hlen hl
  obtain ⟨i, hi⟩ : ∃ i, P.length = i := ⟨_, rfl⟩
  have HPi := hid hi
  rw [hi] at hlen HFE
  obtain ⟨no, hno⟩ : ∃ no, m.no = no := ⟨_, rfl⟩
  have HNo := hid hno
  rw [hno]
  obtain ⟨y, hy⟩ : ∃ y, m.n = y := ⟨_, rfl⟩
  rw [hy] at x1 x2 HF HFE ⊢
  have x3 : y.size ≤ 9223372036854775807 := by omega
  have w1 : IntKind.i64.wrap (z - (s : Int)) = z - (s : Int) := by rw [IntKind.wrap_i64]; omega
  have g1 : ¬ z - (s : Int) < (n : Int) := by omega
  have HK := hid h
  have hn1 : n ≤ 1000000 := by rw [← hnn]; omega
  clear h hx hs hnn hvb hls hnf hi hno hr hn hf hy HX
  go_enter Tryz.func25, Tryz.ntmps25
  go_upto_region 3 with (fail)
  go_quiet (first | (go_at_call 60; refine Calls.quiet_of_same (HSz.out _)))
  have HB1 := hid (Go.below_drewN (Below.refl w.heap.size w) nq)
  obtain ⟨W1, hW1⟩ : ∃ W1, w.drewN nq = W1 := ⟨_, rfl⟩
  rw [hW1] at HB1 ⊢
  clear hW1 m2
  go_upto_region 6 with (go_at_call 61; refine (HF.out _ HB1.out).mono ?_; rintro e w2 ⟨i', ok, rfl, hE, hb⟩; obtain ⟨rfl, rfl⟩ := HFE.out i' ok hE; have HB2 := hid (HB1.out.trans (hb.mono HB1.out.size)); clear hE hb)
  have HK0 : Hid (RkE w w2 B rb (.slice (some ⟨g, 0, none⟩) nf cf) lv (P ++ m :: Q) (.slice (some ⟨g, 0, none⟩) nf cf) lv (P ++ m :: Q) ls z nx) := ⟨HK.out.below HB2.out, Chg.of_below _ HB2.out, fun k q => .inl q⟩
  clear HF HFE HSz HB1 HB2
  go_wp2
  go_loopw [9] (fun vk wr => ∃ (k : Nat) (lv' : Value), vk = .int .i64 (k : Int) ∧ k ≤ n ∧ Hid (RkE w wr B rb (.slice (some ⟨g, 0, none⟩) nf cf) lv (P ++ m :: Q) (.slice (some ⟨g, 0, none⟩) nf cf) lv' (P ++ m :: Q) (ls ++ (b.take k).map fun y => (no, y)) z nx)) (fun vk _ => n - (intOf vk).toNat)
  case atStart => exact ⟨0, _, rfl, Nat.zero_le _, by rw [List.take_zero, List.map_nil, List.append_nil]; exact HK0.out⟩
  case round =>
    obtain ⟨k, lv', rfl, hk, HI⟩ := hrel
    by_cases hkn : k < n
    · have hkl : k < b.length := by rw [HN.out]; exact hkn
      have m0 := HI.out.rk.blk.cell 0
      have m1 := HI.out.rk.blk.cell 1
      have f1 := HI.out.rk.blk.free 1
      have hlen : P.length < (P ++ m :: Q).length := by simp
      obtain ⟨g', e, hc⟩ := mrow_at HI.out.rk.fr hlen
      obtain rfl : g = g' := by injection e with e; injection e
      have hat : (P ++ m :: Q)[P.length]'hlen = m := by simp
      rw [hat] at hc
      have x1 := hc 1 _ (by omega) rfl
      rw [HPi.out, HNo.out] at x1
      obtain ⟨bb, off, rfl, hh⟩ := (HV.out.chg HI.out.ch (HVb.out (by omega))).hold (by omega)
      have x2 := hh k hkl
      rw [List.getD_eq_getElem?_getD, List.getElem?_eq_getElem hkl, Option.getD_some] at x2
      have HMo := hid (lz_more ls b no k hkl)
      have HLR := hid HI.out.rk.lr
      obtain ⟨p, hp⟩ : ∃ p, (ls ++ (b.take k).map fun y => (no, y)).length = p := ⟨_, rfl⟩
      have hpb : p ≤ 2000000 := by
        rw [← hp, List.length_append, List.length_map, List.length_take]
        have := HLs.out
        omega
      obtain ⟨A2, c2, rfl⟩ := lrow_form HI.out.rk.lr hp
      have HPp := hid hp
      have NB : Hid (∀ q, (Value.slice A2 p c2).ownBlock = some q → q ≠ rb ∧ q ≠ g ∧ q ≠ bb) := fun q hq => by
        obtain ⟨cur, hcu⟩ := own_blk HI.out.rk.lr hq
        obtain ⟨cur2, hcu2⟩ := own_blk HI.out.rk.fr (g := g) rfl
        refine ⟨blk_ne0 hcu HI.out.rk.blk (by decide), blk_ne0 hcu hcu2 (by decide), fun e => ?_⟩
        subst e
        rcases HI.out.sub q (.inr (.inr (.inl hq))) with r | r
        · exact HVb.out (by omega) q rfl r
        · rcases HVl.out q rfl with r2 | r2
          · omega
          · exact absurd r2 (Nat.not_lt.2 r)
      obtain ⟨y, hy⟩ : ∃ y, b[k] = y := ⟨_, rfl⟩
      rw [hy] at x2 HMo
      have HS : LzS rb g i' bb (off + k) (.slice (some ⟨g, 0, none⟩) nf cf) (.slice A2 p c2) (no : Int) (y.toNat : Int) wr := ⟨m0, m1, x1, x2, f1⟩
      have HBs : Hid (B ≤ wr.heap.size) := Nat.le_trans HI.out.rk.lo (Nat.le_of_lt HI.out.rk.blk.lt)
      clear hp hy hc hat e hh hkl hlen m0 m1 f1 x1 x2
      go_upto_region 12 with (fail)
      refine wp_region_till 22 (LzS rb g i' bb (off + k) (.slice (some ⟨g, 0, none⟩) nf cf) (.slice A2 p c2) (no : Int) (y.toNat : Int)) (by kernel_rfl) (lzs_below HS (Below.refl _ _).drew) (fun hHeld => ?_)
      (refine wpAnyT_take (i := 0) (v := ?_) rfl (by kernel_rfl) (fun _ _ _ h => h) (Or.inl ⟨by kernel_rfl, ?_⟩) (by assumption) ?_; rotate_left; · (intro w hSw; (try dsimp only at hSw); go_split_ands; go_simp; first | done | with_reducible rfl))
      (try simp only [Act.put]); (try simp only [List.getElem_toArray]); (try simp only [List.getElem_cons_succ]); (try simp only [List.getElem_cons_zero]); (try simp only [List.setIfInBounds_toArray]); (try simp only [List.set_cons_succ]); (try simp only [List.set_cons_zero])
      (refine wpAnyT_take (i := 1) (v := ?_) rfl (by kernel_rfl) (fun _ _ _ h => h) (Or.inl ⟨by kernel_rfl, ?_⟩) (by assumption) ?_; rotate_left; · (intro w hSw; (try dsimp only at hSw); go_split_ands; go_simp; first | done | with_reducible rfl))
      (try simp only [Act.put]); (try simp only [List.getElem_toArray]); (try simp only [List.getElem_cons_succ]); (try simp only [List.getElem_cons_zero]); (try simp only [List.setIfInBounds_toArray]); (try simp only [List.set_cons_succ]); (try simp only [List.set_cons_zero])
      (refine wpAnyT_take (i := 2) (v := ?_) rfl (by kernel_rfl) (fun _ _ _ h => h) (Or.inl ⟨by kernel_rfl, ?_⟩) (by assumption) ?_; rotate_left; · (intro w hSw; (try dsimp only at hSw); go_split_ands; go_simp; first | done | with_reducible rfl))
      (try simp only [Act.put]); (try simp only [List.getElem_toArray]); (try simp only [List.getElem_cons_succ]); (try simp only [List.getElem_cons_zero]); (try simp only [List.setIfInBounds_toArray]); (try simp only [List.set_cons_succ]); (try simp only [List.set_cons_zero])
      (refine wpAnyT_take (i := 3) (v := ?_) rfl (by kernel_rfl) (fun _ _ _ h => h) (Or.inl ⟨by kernel_rfl, ?_⟩) (by assumption) ?_; rotate_left; · (intro w hSw; (try dsimp only at hSw); go_split_ands; go_simp; first | done | with_reducible rfl))
      (try simp only [Act.put]); (try simp only [List.getElem_toArray]); (try simp only [List.getElem_cons_succ]); (try simp only [List.getElem_cons_zero]); (try simp only [List.setIfInBounds_toArray]); (try simp only [List.set_cons_succ]); (try simp only [List.set_cons_zero])
      (refine wpAnyT_take (i := 4) (v := ?_) rfl (by kernel_rfl) (fun _ _ _ h => h) (Or.inl ⟨by kernel_rfl, ?_⟩) (by assumption) ?_; rotate_left; · (intro w hSw; (try dsimp only at hSw); go_split_ands; go_simp; first | done | with_reducible rfl))
      (try simp only [Act.put]); (try simp only [List.getElem_toArray]); (try simp only [List.getElem_cons_succ]); (try simp only [List.getElem_cons_zero]); (try simp only [List.setIfInBounds_toArray]); (try simp only [List.set_cons_succ]); (try simp only [List.set_cons_zero])
      (refine wpAnyT_take (i := 5) (v := ?_) rfl (by kernel_rfl) (fun _ _ _ h => h) (Or.inl ⟨by kernel_rfl, ?_⟩) (by assumption) ?_; rotate_left; · (intro w hSw; (try dsimp only at hSw); go_split_ands; go_simp; first | done | with_reducible rfl))
      (try simp only [Act.put]); (try simp only [List.getElem_toArray]); (try simp only [List.getElem_cons_succ]); (try simp only [List.getElem_cons_zero]); (try simp only [List.setIfInBounds_toArray]); (try simp only [List.set_cons_succ]); (try simp only [List.set_cons_zero])
      (refine wpAnyT_take (i := 6) (v := ?_) rfl (by kernel_rfl) (fun _ _ _ h => h) (Or.inl ⟨by kernel_rfl, ?_⟩) (by assumption) ?_; rotate_left; · (intro w hSw; (try dsimp only at hSw); go_split_ands; go_simp; first | done | with_reducible rfl))
      (try simp only [Act.put]); (try simp only [List.getElem_toArray]); (try simp only [List.getElem_cons_succ]); (try simp only [List.getElem_cons_zero]); (try simp only [List.setIfInBounds_toArray]); (try simp only [List.set_cons_succ]); (try simp only [List.set_cons_zero])
      (refine wpAnyT_take (i := 7) (v := ?_) rfl (by kernel_rfl) (fun _ _ _ h => h) (Or.inl ⟨by kernel_rfl, ?_⟩) (by assumption) ?_; rotate_left; · (intro w hSw; (try dsimp only at hSw); go_split_ands; go_simp; first | done | with_reducible rfl))
      (try simp only [Act.put]); (try simp only [List.getElem_toArray]); (try simp only [List.getElem_cons_succ]); (try simp only [List.getElem_cons_zero]); (try simp only [List.setIfInBounds_toArray]); (try simp only [List.set_cons_succ]); (try simp only [List.set_cons_zero])
      (refine wpAnyT_take (i := 8) (v := ?_) rfl (by kernel_rfl) (fun _ _ _ h => h) (Or.inl ⟨by kernel_rfl, ?_⟩) (by assumption) ?_; rotate_left; · (intro w hSw; (try dsimp only at hSw); go_split_ands; go_simp; first | done | with_reducible rfl))
      (try simp only [Act.put]); (try simp only [List.getElem_toArray]); (try simp only [List.getElem_cons_succ]); (try simp only [List.getElem_cons_zero]); (try simp only [List.setIfInBounds_toArray]); (try simp only [List.set_cons_succ]); (try simp only [List.set_cons_zero])
      (refine wpAnyT_take (i := 9) (v := ?_) rfl (by kernel_rfl) (fun _ _ _ h => h) (Or.inl ⟨by kernel_rfl, ?_⟩) (by assumption) ?_; rotate_left; · (intro w hSw; (try dsimp only at hSw); go_split_ands; go_simp; first | done | with_reducible rfl))
      (try simp only [Act.put]); (try simp only [List.getElem_toArray]); (try simp only [List.getElem_cons_succ]); (try simp only [List.getElem_cons_zero]); (try simp only [List.setIfInBounds_toArray]); (try simp only [List.set_cons_succ]); (try simp only [List.set_cons_zero])
      (refine wpAnyT_take (i := 10) (v := ?_) rfl (by kernel_rfl) (fun _ _ _ h => h) (Or.inl ⟨by kernel_rfl, ?_⟩) (by assumption) ?_; rotate_left; · (intro w hSw; (try dsimp only at hSw); go_split_ands; go_simp; first | done | with_reducible rfl))
      (try simp only [Act.put]); (try simp only [List.getElem_toArray]); (try simp only [List.getElem_cons_succ]); (try simp only [List.getElem_cons_zero]); (try simp only [List.setIfInBounds_toArray]); (try simp only [List.set_cons_succ]); (try simp only [List.set_cons_zero])
      (refine wpAnyT_take (i := 11) (v := ?_) rfl (by kernel_rfl) (fun _ _ _ h => h) (Or.inl ⟨by kernel_rfl, ?_⟩) (by assumption) ?_; rotate_left; · (intro w hSw; (try dsimp only at hSw); go_split_ands; go_simp; first | done | with_reducible rfl))
      (try simp only [Act.put]); (try simp only [List.getElem_toArray]); (try simp only [List.getElem_cons_succ]); (try simp only [List.getElem_cons_zero]); (try simp only [List.setIfInBounds_toArray]); (try simp only [List.set_cons_succ]); (try simp only [List.set_cons_zero])
      (refine wpAnyT_take (i := 12) (v := ?_) rfl (by kernel_rfl) (fun _ _ _ h => h) (Or.inl ⟨by kernel_rfl, ?_⟩) (by assumption) ?_; rotate_left; · (intro w hSw; (try dsimp only at hSw); go_split_ands; go_simp; first | done | with_reducible rfl))
      (try simp only [Act.put]); (try simp only [List.getElem_toArray]); (try simp only [List.getElem_cons_succ]); (try simp only [List.getElem_cons_zero]); (try simp only [List.setIfInBounds_toArray]); (try simp only [List.set_cons_succ]); (try simp only [List.set_cons_zero])
      (refine wpAnyT_take (i := 13) (v := ?_) rfl (by kernel_rfl) (fun _ _ _ h => h) (Or.inl ⟨by kernel_rfl, ?_⟩) (by assumption) ?_; rotate_left; · (intro w hSw; (try dsimp only at hSw); go_split_ands; go_simp; first | done | with_reducible rfl))
      (try simp only [Act.put]); (try simp only [List.getElem_toArray]); (try simp only [List.getElem_cons_succ]); (try simp only [List.getElem_cons_zero]); (try simp only [List.setIfInBounds_toArray]); (try simp only [List.set_cons_succ]); (try simp only [List.set_cons_zero])
      (refine wpAnyT_take (i := 14) (v := ?_) rfl (by kernel_rfl) (fun _ _ _ h => h) (Or.inl ⟨by kernel_rfl, ?_⟩) (by assumption) ?_; rotate_left; · (intro w hSw; (try dsimp only at hSw); go_split_ands; go_simp; first | done | with_reducible rfl))
      (try simp only [Act.put]); (try simp only [List.getElem_toArray]); (try simp only [List.getElem_cons_succ]); (try simp only [List.getElem_cons_zero]); (try simp only [List.setIfInBounds_toArray]); (try simp only [List.set_cons_succ]); (try simp only [List.set_cons_zero])
      (refine wpAnyT_take (i := 15) (v := ?_) rfl (by kernel_rfl) (fun _ _ _ h => h) (Or.inl ⟨by kernel_rfl, ?_⟩) (by assumption) ?_; rotate_left; · (intro w hSw; (try dsimp only at hSw); go_split_ands; go_simp; first | done | with_reducible rfl))
      (try simp only [Act.put]); (try simp only [List.getElem_toArray]); (try simp only [List.getElem_cons_succ]); (try simp only [List.getElem_cons_zero]); (try simp only [List.setIfInBounds_toArray]); (try simp only [List.set_cons_succ]); (try simp only [List.set_cons_zero])
      (refine wpAnyT_take (i := 16) (v := ?_) rfl (by kernel_rfl) (fun _ _ _ h => h) (Or.inl ⟨by kernel_rfl, ?_⟩) (by assumption) ?_; rotate_left; · (intro w hSw; (try dsimp only at hSw); go_split_ands; go_simp; first | done | with_reducible rfl))
      (try simp only [Act.put]); (try simp only [List.getElem_toArray]); (try simp only [List.getElem_cons_succ]); (try simp only [List.getElem_cons_zero]); (try simp only [List.setIfInBounds_toArray]); (try simp only [List.set_cons_succ]); (try simp only [List.set_cons_zero])
      (refine wpAnyT_take (i := 17) (v := ?_) rfl (by kernel_rfl) (fun _ _ _ h => h) (Or.inl ⟨by kernel_rfl, ?_⟩) (by assumption) ?_; rotate_left; · (intro w hSw; (try dsimp only at hSw); go_split_ands; go_simp; first | done | with_reducible rfl))
      (try simp only [Act.put]); (try simp only [List.getElem_toArray]); (try simp only [List.getElem_cons_succ]); (try simp only [List.getElem_cons_zero]); (try simp only [List.setIfInBounds_toArray]); (try simp only [List.set_cons_succ]); (try simp only [List.set_cons_zero])
      (refine wpAnyT_one (i := 18) (by kernel_rfl) rfl (fun K hK => ?_); go_simp; refine hK.out _ _ (.inr ?_) (fun hHeld => ?_))
      · exact lzs_below hHeld (below_new _ _)
      replace hHeld := hHeld.resolve_left (by decide)
      clear hK K
      (try simp only [Act.put]); (try simp only [List.getElem_toArray]); (try simp only [List.getElem_cons_succ]); (try simp only [List.getElem_cons_zero]); (try simp only [List.setIfInBounds_toArray]); (try simp only [List.set_cons_succ]); (try simp only [List.set_cons_zero])
      (refine wpAnyT_one (i := 19) (by kernel_rfl) rfl (fun K hK => ?_); refine step_append_lz rfl (.tmp 62) (.tmp 76) rfl _ B (.slice A2 p c2) (ls ++ (b.take k).map fun y => (no, y)) rfl (own_block0 HLR.out fun q hq => ((Below.refl _ wr).drew.trans (below_new wr.drew _)).block q (World.ownsRow.lt HLR.out q hq).2) _ 1 (no, y) rfl (lz_new _ no y) (by rw [HPp.out]; omega) (by have := HBs.out; simp; omega) ?_; intro v2 w2 hr2 hg2 hl2; obtain ⟨A3, c3, rfl⟩ := lrow_form hr2 (show ((ls ++ (b.take k).map fun y => (no, y)) ++ [(no, y)]).length = p + 1 by rw [List.length_append, HPp.out]; rfl); have HE := hid (rke_lz HI.out ((Below.refl _ wr).drew.trans (below_new wr.drew _)) hr2 hg2 hl2); have hS2 := lzs_grown hHeld hg2 NB.out; clear hr2 hg2 hl2; refine hK.out _ _ (.inr ?_) (fun hHeld => ?_))
      · exact hS2
      replace hHeld := hHeld.resolve_left (by decide)
      clear hK K
      (try simp only [Act.put]); (try simp only [List.getElem_toArray]); (try simp only [List.getElem_cons_succ]); (try simp only [List.getElem_cons_zero]); (try simp only [List.setIfInBounds_toArray]); (try simp only [List.set_cons_succ]); (try simp only [List.set_cons_zero])
      clear hS2
      (refine wpAnyT_one (i := 20) (by kernel_rfl) rfl (fun K hK => ?_); go_simp; refine hK.out _ _ (.inr ?_) (fun hHeld => ?_))
      · exact hHeld
      replace hHeld := hHeld.resolve_left (by decide)
      clear hK K
      (try simp only [Act.put]); (try simp only [List.getElem_toArray]); (try simp only [List.getElem_cons_succ]); (try simp only [List.getElem_cons_zero]); (try simp only [List.setIfInBounds_toArray]); (try simp only [List.set_cons_succ]); (try simp only [List.set_cons_zero])
      (refine wpAnyT_one (i := 21) (by kernel_rfl) rfl (fun K hK => ?_); go_simp; refine hK.out _ _ (.inr ?_) (fun hHeld => ?_))
      · exact hHeld
      replace hHeld := hHeld.resolve_left (by decide)
      clear hK K
      (try simp only [Act.put]); (try simp only [List.getElem_toArray]); (try simp only [List.getElem_cons_succ]); (try simp only [List.getElem_cons_zero]); (try simp only [List.setIfInBounds_toArray]); (try simp only [List.set_cons_succ]); (try simp only [List.set_cons_zero])
      (refine wpAnyT_one (i := 22) (by kernel_rfl) rfl (fun K hK => ?_); obtain ⟨r0, r1, r2, r3, r4⟩ := hHeld; go_simp; refine hK.out _ _ (.inl rfl) (fun _ => ?_))
      clear hK K
      (try simp only [Act.put]); (try simp only [List.getElem_toArray]); (try simp only [List.getElem_cons_succ]); (try simp only [List.getElem_cons_zero]); (try simp only [List.setIfInBounds_toArray]); (try simp only [List.set_cons_succ]); (try simp only [List.set_cons_zero])
      refine wpAnyT_done (by kernel_rfl) ?_ _
      rw [← HMo.out] at HE
      go_wp2
      go_roundw
      case rel => exact ⟨k + 1, _, by go_num, by omega, HE.out⟩
      case measure => simp [intOf]; omega
    · obtain rfl : k = n := by omega
      have hi := HI.out
      rw [List.take_of_length_le (by rw [HN.out]; exact Nat.le_refl _)] at hi
      have HIf := hid hi
      clear hi
      go_wp2
      go_ret
      exact ⟨rfl, _, HIf.out⟩

set_option maxRecDepth 100000 in
set_option maxHeartbeats 8000000 in
theorem rwrite_new {w : World} {B rb nx : Nat} {fv lv : Value} {P Q : List Rm} {ls : List Lm} {z : Int} (h : Rk w B rb fv lv (P ++ Q) ls z nx) (x : ByteArray) (hx : rightB x = true) (hn : ∀ m' ∈ P ++ Q, m'.n.size ≤ maxLen) (hl : (P ++ Q).length ≤ 90000) (hP : ∀ a ∈ P, bef a.n x = true) (hQ : ∀ c ∈ Q, bef x c.n = true) (hz : 0 ≤ z ∧ z ≤ 16777216) (hnx : nx ≤ 1000000) (v : Value) (b : List UInt8) (hv : SlA w v b) (hvb : 0 < b.length → ∀ k, v.ownBlock = some k → ¬ Rt rb fv lv (P ++ Q) k) (hf : (sizeM (P ++ Q) ls : Int) + (b.length : Int) ≤ z) (hls : ls.length + b.length ≤ 1000000) :
    Calls Tryz.prog 25 #[.pointer (some ⟨rb, 0, none⟩), .string x, v] w fun e w' => e = .returned (.int .i64 0) ∧ ∃ fv' lv', RkE w w' B rb fv lv (P ++ Q) fv' lv' (P ++ ⟨x, nx + 1, .slice none 0 0, [], false⟩ :: Q) (ls ++ b.map fun y => (nx + 1, y)) z (nx + 1) := by
  obtain ⟨x1, x2⟩ := right_in hx
  have HX : Hid (x.size ≤ maxLen) := by unfold Hid maxLen; omega
  have HF := hid fun W (hW : Below w.heap.size w W) => rfind_ok (h.below hW) x HX.out hn (by omega)
  have HFE := hid fun i ok (hE : FindE x (P ++ Q) i ok) => find_no hE hP hQ
  have hsz : sizeM (P ++ Q) ls ≤ 16777216 := by omega
  have HSz := hid fun k => rsize_same (h.drewN k) (by omega) (by omega)
  have m2 : w.cell? ⟨rb, 2, none⟩ = some (.int .i64 z) := h.blk.cell 2
  obtain ⟨s, hs⟩ : ∃ s, sizeM (P ++ Q) ls = s := ⟨_, rfl⟩
  rw [hs] at HSz hf hsz
  obtain ⟨n, hnn⟩ : ∃ n, b.length = n := ⟨_, rfl⟩
  have HN := hid hnn
  have HV := hid hv
  have HVb := hid hvb
  have HVl : Hid (∀ k, v.ownBlock = some k → b.length = 0 ∨ k < w.heap.size) := sla_lt hv
  have HLs := hid hls
  obtain ⟨A, c, rfl, _⟩ := hv
  rw [hnn] at hf HV HVb HVl ⊢
  obtain ⟨i, hi⟩ : ∃ i, P.length = i := ⟨_, rfl⟩
  have HPi := hid hi
  rw [hi] at HFE
  obtain ⟨no, hno⟩ : ∃ no, nx + 1 = no := ⟨_, rfl⟩
  obtain ⟨m, hm⟩ : ∃ m : Rm, m = ⟨x, no, .slice none 0 0, [], false⟩ := ⟨_, rfl⟩
  have HNo : Hid (m.no = no) := by rw [hm]; rfl
  have w4 : IntKind.i64.wrap ((nx : Int) + 1) = (no : Int) := by rw [IntKind.wrap_i64]; omega
  rw [hno, ← hm]
  have x3 : x.size ≤ 9223372036854775807 := by omega
  have w1 : IntKind.i64.wrap (z - (s : Int)) = z - (s : Int) := by rw [IntKind.wrap_i64]; omega
  have g1 : ¬ z - (s : Int) < (n : Int) := by omega
  have HK := hid h
  have HPu := hid fun (W : World) fv' lv' (hW : Rk W B rb fv' lv' (P ++ Q) ls z no) => rput_ok hW (by omega) m (by rw [hm]; exact Row.none W B) (fun q _ => by rw [hm]; exact ⟨fun k hk => (by cases hk), fun k hk e => (by cases e)⟩) i hi
  rw [hm] at HPu
  have HM := hid hm
  have hn1 : n ≤ 1000000 := by rw [← hnn]; omega
  clear h hx hs hnn hvb hls hi hno hn hf HX hP hQ hm hl
  go_enter Tryz.func25, Tryz.ntmps25
  go_upto_region 3 with (fail)
  go_quiet (first | (go_at_call 60; refine Calls.quiet_of_same (HSz.out _)))
  have HB1 := hid (Go.below_drewN (Below.refl w.heap.size w) nq)
  obtain ⟨W1, hW1⟩ : ∃ W1, w.drewN nq = W1 := ⟨_, rfl⟩
  rw [hW1] at HB1 ⊢
  clear hW1 m2
  go_upto_region 6 with (go_at_call 61; refine (HF.out _ HB1.out).mono ?_; rintro e w2 ⟨i', ok, rfl, hE, hb⟩; obtain ⟨rfl, rfl⟩ := HFE.out i' ok hE; have HB2 := hid (HB1.out.trans (hb.mono HB1.out.size)); clear hE hb)
  have HK2 := hid (HK.out.below HB2.out)
  have m3 : w2.cell? ⟨rb, 3, none⟩ = some (.int .i64 (nx : Int)) := HK2.out.blk.cell 3
  have f3 := HK2.out.blk.free 3
  clear HF HFE HSz HB1
  go_upto_region 8 with (fail)
  have HK3 := hid (HK2.out.next no)
  have HC3 : Hid (Chg (Rt rb fv lv (P ++ Q)) w (w2.setCell ⟨rb, 3, none⟩ (.int .i64 (no : Int)))) := (Chg.of_below _ HB2.out).trans (Chg.of_set w2 rb 3 _ (S := Rt rb fv lv (P ++ Q)) (.inl rfl)) fun k q => .inl q
  obtain ⟨W3, hW3⟩ : ∃ W3, w2.setCell ⟨rb, 3, none⟩ (.int .i64 (no : Int)) = W3 := ⟨_, rfl⟩
  rw [hW3] at HK3 HC3 ⊢
  have m4 : W3.cell? ⟨rb, 3, none⟩ = some (.int .i64 (no : Int)) := HK3.out.blk.cell 3
  clear hW3 m3 f3 w4
  go_upto_region 9 with (go_at_call 62; refine (HPu.out _ _ _ HK3.out).mono ?_; rintro e w4 ⟨rfl, v7, h1, h2, h3⟩; rw [← HM.out] at h1; have HK0' : Hid (RkE w w4 B rb fv lv (P ++ Q) v7 lv (P ++ m :: Q) ls z no) := ⟨h1, HC3.out.trans h2 fun k q => .inl (.inl q), fun k q => by
    rcases q with q | q | q | ⟨a, ha, q⟩
    · exact .inl (.inl q)
    · exact .inr (Nat.le_trans HC3.out.size (h3 k q))
    · exact .inl (.inr (.inr (.inl q)))
    · rcases List.mem_append.1 ha with r | r
      · exact .inl (.inr (.inr (.inr ⟨a, List.mem_append_left _ r, q⟩)))
      · rcases List.mem_cons.1 r with r | r
        · rw [r, HM.out] at q
          cases q
        · exact .inl (.inr (.inr (.inr ⟨a, List.mem_append_right _ r, q⟩)))⟩; clear h1 h2 h3)
  obtain ⟨nf, hnf⟩ : ∃ nf, (P ++ m :: Q).length = nf := ⟨_, rfl⟩
  obtain ⟨Af, cf, rfl⟩ := mrow_form HK0'.out.rk.fr hnf
  have hlen : P.length < (P ++ m :: Q).length := by simp
  obtain ⟨g, rfl, _⟩ := mrow_at HK0'.out.rk.fr hlen
  have HK0 := hid HK0'.out
  rw [hnf] at hlen
  have hl2 : i' < nf := by rw [← HPi.out]; exact hlen
  clear hnf hlen HK0' HPu HK2 HK3 HC3 HB2 m4
  go_wp2
  go_loopw [9] (fun vk wr => ∃ (k : Nat) (lv' : Value), vk = .int .i64 (k : Int) ∧ k ≤ n ∧ Hid (RkE w wr B rb fv lv (P ++ Q) (.slice (some ⟨g, 0, none⟩) nf cf) lv' (P ++ m :: Q) (ls ++ (b.take k).map fun y => (no, y)) z no)) (fun vk _ => n - (intOf vk).toNat)
  case atStart => exact ⟨0, _, rfl, Nat.zero_le _, by rw [List.take_zero, List.map_nil, List.append_nil]; exact HK0.out⟩
  case round =>
    obtain ⟨k, lv', rfl, hk, HI⟩ := hrel
    by_cases hkn : k < n
    · have hkl : k < b.length := by rw [HN.out]; exact hkn
      have m0 := HI.out.rk.blk.cell 0
      have m1 := HI.out.rk.blk.cell 1
      have f1 := HI.out.rk.blk.free 1
      have hlen : P.length < (P ++ m :: Q).length := by simp
      obtain ⟨g', e, hc⟩ := mrow_at HI.out.rk.fr hlen
      obtain rfl : g = g' := by injection e with e; injection e
      have hat : (P ++ m :: Q)[P.length]'hlen = m := by simp
      rw [hat] at hc
      have x1 := hc 1 _ (by omega) rfl
      rw [HPi.out, HNo.out] at x1
      obtain ⟨bb, off, rfl, hh⟩ := (HV.out.chg HI.out.ch (HVb.out (by omega))).hold (by omega)
      have x2 := hh k hkl
      rw [List.getD_eq_getElem?_getD, List.getElem?_eq_getElem hkl, Option.getD_some] at x2
      have HMo := hid (lz_more ls b no k hkl)
      have HLR := hid HI.out.rk.lr
      obtain ⟨p, hp⟩ : ∃ p, (ls ++ (b.take k).map fun y => (no, y)).length = p := ⟨_, rfl⟩
      have hpb : p ≤ 2000000 := by
        rw [← hp, List.length_append, List.length_map, List.length_take]
        have := HLs.out
        omega
      obtain ⟨A2, c2, rfl⟩ := lrow_form HI.out.rk.lr hp
      have HPp := hid hp
      have NB : Hid (∀ q, (Value.slice A2 p c2).ownBlock = some q → q ≠ rb ∧ q ≠ g ∧ q ≠ bb) := fun q hq => by
        obtain ⟨cur, hcu⟩ := own_blk HI.out.rk.lr hq
        obtain ⟨cur2, hcu2⟩ := own_blk HI.out.rk.fr (g := g) rfl
        refine ⟨blk_ne0 hcu HI.out.rk.blk (by decide), blk_ne0 hcu hcu2 (by decide), fun e => ?_⟩
        subst e
        rcases HI.out.sub q (.inr (.inr (.inl hq))) with r | r
        · exact HVb.out (by omega) q rfl r
        · rcases HVl.out q rfl with r2 | r2
          · omega
          · exact absurd r2 (Nat.not_lt.2 r)
      obtain ⟨y, hy⟩ : ∃ y, b[k] = y := ⟨_, rfl⟩
      rw [hy] at x2 HMo
      have HS : LzS rb g i' bb (off + k) (.slice (some ⟨g, 0, none⟩) nf cf) (.slice A2 p c2) (no : Int) (y.toNat : Int) wr := ⟨m0, m1, x1, x2, f1⟩
      have HBs : Hid (B ≤ wr.heap.size) := Nat.le_trans HI.out.rk.lo (Nat.le_of_lt HI.out.rk.blk.lt)
      clear hp hy hc hat e hh hkl hlen m0 m1 f1 x1 x2
      go_upto_region 12 with (fail)
      refine wp_region_till 22 (LzS rb g i' bb (off + k) (.slice (some ⟨g, 0, none⟩) nf cf) (.slice A2 p c2) (no : Int) (y.toNat : Int)) (by kernel_rfl) (lzs_below HS (Below.refl _ _).drew) (fun hHeld => ?_)
      (refine wpAnyT_take (i := 0) (v := ?_) rfl (by kernel_rfl) (fun _ _ _ h => h) (Or.inl ⟨by kernel_rfl, ?_⟩) (by assumption) ?_; rotate_left; · (intro w hSw; (try dsimp only at hSw); go_split_ands; go_simp; first | done | with_reducible rfl))
      (try simp only [Act.put]); (try simp only [List.getElem_toArray]); (try simp only [List.getElem_cons_succ]); (try simp only [List.getElem_cons_zero]); (try simp only [List.setIfInBounds_toArray]); (try simp only [List.set_cons_succ]); (try simp only [List.set_cons_zero])
      (refine wpAnyT_take (i := 1) (v := ?_) rfl (by kernel_rfl) (fun _ _ _ h => h) (Or.inl ⟨by kernel_rfl, ?_⟩) (by assumption) ?_; rotate_left; · (intro w hSw; (try dsimp only at hSw); go_split_ands; go_simp; first | done | with_reducible rfl))
      (try simp only [Act.put]); (try simp only [List.getElem_toArray]); (try simp only [List.getElem_cons_succ]); (try simp only [List.getElem_cons_zero]); (try simp only [List.setIfInBounds_toArray]); (try simp only [List.set_cons_succ]); (try simp only [List.set_cons_zero])
      (refine wpAnyT_take (i := 2) (v := ?_) rfl (by kernel_rfl) (fun _ _ _ h => h) (Or.inl ⟨by kernel_rfl, ?_⟩) (by assumption) ?_; rotate_left; · (intro w hSw; (try dsimp only at hSw); go_split_ands; go_simp; first | done | with_reducible rfl))
      (try simp only [Act.put]); (try simp only [List.getElem_toArray]); (try simp only [List.getElem_cons_succ]); (try simp only [List.getElem_cons_zero]); (try simp only [List.setIfInBounds_toArray]); (try simp only [List.set_cons_succ]); (try simp only [List.set_cons_zero])
      (refine wpAnyT_take (i := 3) (v := ?_) rfl (by kernel_rfl) (fun _ _ _ h => h) (Or.inl ⟨by kernel_rfl, ?_⟩) (by assumption) ?_; rotate_left; · (intro w hSw; (try dsimp only at hSw); go_split_ands; go_simp; first | done | with_reducible rfl))
      (try simp only [Act.put]); (try simp only [List.getElem_toArray]); (try simp only [List.getElem_cons_succ]); (try simp only [List.getElem_cons_zero]); (try simp only [List.setIfInBounds_toArray]); (try simp only [List.set_cons_succ]); (try simp only [List.set_cons_zero])
      (refine wpAnyT_take (i := 4) (v := ?_) rfl (by kernel_rfl) (fun _ _ _ h => h) (Or.inl ⟨by kernel_rfl, ?_⟩) (by assumption) ?_; rotate_left; · (intro w hSw; (try dsimp only at hSw); go_split_ands; go_simp; first | done | with_reducible rfl))
      (try simp only [Act.put]); (try simp only [List.getElem_toArray]); (try simp only [List.getElem_cons_succ]); (try simp only [List.getElem_cons_zero]); (try simp only [List.setIfInBounds_toArray]); (try simp only [List.set_cons_succ]); (try simp only [List.set_cons_zero])
      (refine wpAnyT_take (i := 5) (v := ?_) rfl (by kernel_rfl) (fun _ _ _ h => h) (Or.inl ⟨by kernel_rfl, ?_⟩) (by assumption) ?_; rotate_left; · (intro w hSw; (try dsimp only at hSw); go_split_ands; go_simp; first | done | with_reducible rfl))
      (try simp only [Act.put]); (try simp only [List.getElem_toArray]); (try simp only [List.getElem_cons_succ]); (try simp only [List.getElem_cons_zero]); (try simp only [List.setIfInBounds_toArray]); (try simp only [List.set_cons_succ]); (try simp only [List.set_cons_zero])
      (refine wpAnyT_take (i := 6) (v := ?_) rfl (by kernel_rfl) (fun _ _ _ h => h) (Or.inl ⟨by kernel_rfl, ?_⟩) (by assumption) ?_; rotate_left; · (intro w hSw; (try dsimp only at hSw); go_split_ands; go_simp; first | done | with_reducible rfl))
      (try simp only [Act.put]); (try simp only [List.getElem_toArray]); (try simp only [List.getElem_cons_succ]); (try simp only [List.getElem_cons_zero]); (try simp only [List.setIfInBounds_toArray]); (try simp only [List.set_cons_succ]); (try simp only [List.set_cons_zero])
      (refine wpAnyT_take (i := 7) (v := ?_) rfl (by kernel_rfl) (fun _ _ _ h => h) (Or.inl ⟨by kernel_rfl, ?_⟩) (by assumption) ?_; rotate_left; · (intro w hSw; (try dsimp only at hSw); go_split_ands; go_simp; first | done | with_reducible rfl))
      (try simp only [Act.put]); (try simp only [List.getElem_toArray]); (try simp only [List.getElem_cons_succ]); (try simp only [List.getElem_cons_zero]); (try simp only [List.setIfInBounds_toArray]); (try simp only [List.set_cons_succ]); (try simp only [List.set_cons_zero])
      (refine wpAnyT_take (i := 8) (v := ?_) rfl (by kernel_rfl) (fun _ _ _ h => h) (Or.inl ⟨by kernel_rfl, ?_⟩) (by assumption) ?_; rotate_left; · (intro w hSw; (try dsimp only at hSw); go_split_ands; go_simp; first | done | with_reducible rfl))
      (try simp only [Act.put]); (try simp only [List.getElem_toArray]); (try simp only [List.getElem_cons_succ]); (try simp only [List.getElem_cons_zero]); (try simp only [List.setIfInBounds_toArray]); (try simp only [List.set_cons_succ]); (try simp only [List.set_cons_zero])
      (refine wpAnyT_take (i := 9) (v := ?_) rfl (by kernel_rfl) (fun _ _ _ h => h) (Or.inl ⟨by kernel_rfl, ?_⟩) (by assumption) ?_; rotate_left; · (intro w hSw; (try dsimp only at hSw); go_split_ands; go_simp; first | done | with_reducible rfl))
      (try simp only [Act.put]); (try simp only [List.getElem_toArray]); (try simp only [List.getElem_cons_succ]); (try simp only [List.getElem_cons_zero]); (try simp only [List.setIfInBounds_toArray]); (try simp only [List.set_cons_succ]); (try simp only [List.set_cons_zero])
      (refine wpAnyT_take (i := 10) (v := ?_) rfl (by kernel_rfl) (fun _ _ _ h => h) (Or.inl ⟨by kernel_rfl, ?_⟩) (by assumption) ?_; rotate_left; · (intro w hSw; (try dsimp only at hSw); go_split_ands; go_simp; first | done | with_reducible rfl))
      (try simp only [Act.put]); (try simp only [List.getElem_toArray]); (try simp only [List.getElem_cons_succ]); (try simp only [List.getElem_cons_zero]); (try simp only [List.setIfInBounds_toArray]); (try simp only [List.set_cons_succ]); (try simp only [List.set_cons_zero])
      (refine wpAnyT_take (i := 11) (v := ?_) rfl (by kernel_rfl) (fun _ _ _ h => h) (Or.inl ⟨by kernel_rfl, ?_⟩) (by assumption) ?_; rotate_left; · (intro w hSw; (try dsimp only at hSw); go_split_ands; go_simp; first | done | with_reducible rfl))
      (try simp only [Act.put]); (try simp only [List.getElem_toArray]); (try simp only [List.getElem_cons_succ]); (try simp only [List.getElem_cons_zero]); (try simp only [List.setIfInBounds_toArray]); (try simp only [List.set_cons_succ]); (try simp only [List.set_cons_zero])
      (refine wpAnyT_take (i := 12) (v := ?_) rfl (by kernel_rfl) (fun _ _ _ h => h) (Or.inl ⟨by kernel_rfl, ?_⟩) (by assumption) ?_; rotate_left; · (intro w hSw; (try dsimp only at hSw); go_split_ands; go_simp; first | done | with_reducible rfl))
      (try simp only [Act.put]); (try simp only [List.getElem_toArray]); (try simp only [List.getElem_cons_succ]); (try simp only [List.getElem_cons_zero]); (try simp only [List.setIfInBounds_toArray]); (try simp only [List.set_cons_succ]); (try simp only [List.set_cons_zero])
      (refine wpAnyT_take (i := 13) (v := ?_) rfl (by kernel_rfl) (fun _ _ _ h => h) (Or.inl ⟨by kernel_rfl, ?_⟩) (by assumption) ?_; rotate_left; · (intro w hSw; (try dsimp only at hSw); go_split_ands; go_simp; first | done | with_reducible rfl))
      (try simp only [Act.put]); (try simp only [List.getElem_toArray]); (try simp only [List.getElem_cons_succ]); (try simp only [List.getElem_cons_zero]); (try simp only [List.setIfInBounds_toArray]); (try simp only [List.set_cons_succ]); (try simp only [List.set_cons_zero])
      (refine wpAnyT_take (i := 14) (v := ?_) rfl (by kernel_rfl) (fun _ _ _ h => h) (Or.inl ⟨by kernel_rfl, ?_⟩) (by assumption) ?_; rotate_left; · (intro w hSw; (try dsimp only at hSw); go_split_ands; go_simp; first | done | with_reducible rfl))
      (try simp only [Act.put]); (try simp only [List.getElem_toArray]); (try simp only [List.getElem_cons_succ]); (try simp only [List.getElem_cons_zero]); (try simp only [List.setIfInBounds_toArray]); (try simp only [List.set_cons_succ]); (try simp only [List.set_cons_zero])
      (refine wpAnyT_take (i := 15) (v := ?_) rfl (by kernel_rfl) (fun _ _ _ h => h) (Or.inl ⟨by kernel_rfl, ?_⟩) (by assumption) ?_; rotate_left; · (intro w hSw; (try dsimp only at hSw); go_split_ands; go_simp; first | done | with_reducible rfl))
      (try simp only [Act.put]); (try simp only [List.getElem_toArray]); (try simp only [List.getElem_cons_succ]); (try simp only [List.getElem_cons_zero]); (try simp only [List.setIfInBounds_toArray]); (try simp only [List.set_cons_succ]); (try simp only [List.set_cons_zero])
      (refine wpAnyT_take (i := 16) (v := ?_) rfl (by kernel_rfl) (fun _ _ _ h => h) (Or.inl ⟨by kernel_rfl, ?_⟩) (by assumption) ?_; rotate_left; · (intro w hSw; (try dsimp only at hSw); go_split_ands; go_simp; first | done | with_reducible rfl))
      (try simp only [Act.put]); (try simp only [List.getElem_toArray]); (try simp only [List.getElem_cons_succ]); (try simp only [List.getElem_cons_zero]); (try simp only [List.setIfInBounds_toArray]); (try simp only [List.set_cons_succ]); (try simp only [List.set_cons_zero])
      (refine wpAnyT_take (i := 17) (v := ?_) rfl (by kernel_rfl) (fun _ _ _ h => h) (Or.inl ⟨by kernel_rfl, ?_⟩) (by assumption) ?_; rotate_left; · (intro w hSw; (try dsimp only at hSw); go_split_ands; go_simp; first | done | with_reducible rfl))
      (try simp only [Act.put]); (try simp only [List.getElem_toArray]); (try simp only [List.getElem_cons_succ]); (try simp only [List.getElem_cons_zero]); (try simp only [List.setIfInBounds_toArray]); (try simp only [List.set_cons_succ]); (try simp only [List.set_cons_zero])
      (refine wpAnyT_one (i := 18) (by kernel_rfl) rfl (fun K hK => ?_); go_simp; refine hK.out _ _ (.inr ?_) (fun hHeld => ?_))
      · exact lzs_below hHeld (below_new _ _)
      replace hHeld := hHeld.resolve_left (by decide)
      clear hK K
      (try simp only [Act.put]); (try simp only [List.getElem_toArray]); (try simp only [List.getElem_cons_succ]); (try simp only [List.getElem_cons_zero]); (try simp only [List.setIfInBounds_toArray]); (try simp only [List.set_cons_succ]); (try simp only [List.set_cons_zero])
      (refine wpAnyT_one (i := 19) (by kernel_rfl) rfl (fun K hK => ?_); refine step_append_lz rfl (.tmp 62) (.tmp 76) rfl _ B (.slice A2 p c2) (ls ++ (b.take k).map fun y => (no, y)) rfl (own_block0 HLR.out fun q hq => ((Below.refl _ wr).drew.trans (below_new wr.drew _)).block q (World.ownsRow.lt HLR.out q hq).2) _ 1 (no, y) rfl (lz_new _ no y) (by rw [HPp.out]; omega) (by have := HBs.out; simp; omega) ?_; intro v2 w2 hr2 hg2 hl2; obtain ⟨A3, c3, rfl⟩ := lrow_form hr2 (show ((ls ++ (b.take k).map fun y => (no, y)) ++ [(no, y)]).length = p + 1 by rw [List.length_append, HPp.out]; rfl); have HE := hid (rke_lz HI.out ((Below.refl _ wr).drew.trans (below_new wr.drew _)) hr2 hg2 hl2); have hS2 := lzs_grown hHeld hg2 NB.out; clear hr2 hg2 hl2; refine hK.out _ _ (.inr ?_) (fun hHeld => ?_))
      · exact hS2
      replace hHeld := hHeld.resolve_left (by decide)
      clear hK K
      (try simp only [Act.put]); (try simp only [List.getElem_toArray]); (try simp only [List.getElem_cons_succ]); (try simp only [List.getElem_cons_zero]); (try simp only [List.setIfInBounds_toArray]); (try simp only [List.set_cons_succ]); (try simp only [List.set_cons_zero])
      clear hS2
      (refine wpAnyT_one (i := 20) (by kernel_rfl) rfl (fun K hK => ?_); go_simp; refine hK.out _ _ (.inr ?_) (fun hHeld => ?_))
      · exact hHeld
      replace hHeld := hHeld.resolve_left (by decide)
      clear hK K
      (try simp only [Act.put]); (try simp only [List.getElem_toArray]); (try simp only [List.getElem_cons_succ]); (try simp only [List.getElem_cons_zero]); (try simp only [List.setIfInBounds_toArray]); (try simp only [List.set_cons_succ]); (try simp only [List.set_cons_zero])
      (refine wpAnyT_one (i := 21) (by kernel_rfl) rfl (fun K hK => ?_); go_simp; refine hK.out _ _ (.inr ?_) (fun hHeld => ?_))
      · exact hHeld
      replace hHeld := hHeld.resolve_left (by decide)
      clear hK K
      (try simp only [Act.put]); (try simp only [List.getElem_toArray]); (try simp only [List.getElem_cons_succ]); (try simp only [List.getElem_cons_zero]); (try simp only [List.setIfInBounds_toArray]); (try simp only [List.set_cons_succ]); (try simp only [List.set_cons_zero])
      (refine wpAnyT_one (i := 22) (by kernel_rfl) rfl (fun K hK => ?_); obtain ⟨r0, r1, r2, r3, r4⟩ := hHeld; go_simp; refine hK.out _ _ (.inl rfl) (fun _ => ?_))
      clear hK K
      (try simp only [Act.put]); (try simp only [List.getElem_toArray]); (try simp only [List.getElem_cons_succ]); (try simp only [List.getElem_cons_zero]); (try simp only [List.setIfInBounds_toArray]); (try simp only [List.set_cons_succ]); (try simp only [List.set_cons_zero])
      refine wpAnyT_done (by kernel_rfl) ?_ _
      rw [← HMo.out] at HE
      go_wp2
      go_roundw
      case rel => exact ⟨k + 1, _, by go_num, by omega, HE.out⟩
      case measure => simp [intOf]; omega
    · obtain rfl : k = n := by omega
      have hi := HI.out
      rw [List.take_of_length_le (by rw [HN.out]; exact Nat.le_refl _)] at hi
      have HIf := hid hi
      clear hi
      go_wp2
      go_ret
      exact ⟨rfl, _, _, HIf.out⟩
end Go.Proofs.YtofkfafdodhmdaaGreatDoor
