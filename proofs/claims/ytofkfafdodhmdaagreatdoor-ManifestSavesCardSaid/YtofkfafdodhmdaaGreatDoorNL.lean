/- Several texts in one: StI StK StL StM. Conditions: as each theorem names them. -/
import Derived.Test.YtofkfafdodhmdaaGreatDoorNK
import Derived.Test.YtofkfafdodhmdaaGreatDoorShelfS
import Derived.Shelf.SlSortCmp.NoneTotal
/- (*store.Disk).total over its two questions, Loose. Conditions: the disk stands. -/
namespace Go.Proofs.YtofkfafdodhmdaaGreatDoor
open Go.RowKit

/-- The files that have been gone through. -/
def doneF (left : Lit → Bool) (fs : List Fl) : List Fl := fs.filter fun f => !left f.key
theorem next_file {fs : List Fl} (hr : Ris fs) {x : List UInt8} {c : Option Nat} {kl : Lit} {y : DataW Unit × List MemPlace} (hkey : keyOf Tryz.prog 9 (Go.Proofs.encStr x) = some kl) (hy : Rp (ptrB c) = some y) (hat : ∀ zd, (mapD fs).atKey kl zd = y.1) :
    ∃ A f C, fs = A ++ f :: C ∧ f.n = ⟨x.toArray⟩ ∧ kl = f.key ∧ c = some f.b := by
  obtain ⟨x', e1, rfl, _⟩ := Maps.keyOf_str Tryz.underlying9 hkey
  have e1 := encStr_inj e1
  subst e1
  have ex : (⟨x.toArray⟩ : ByteArray).data.toList = x := rfl
  rcases part ⟨x.toArray⟩ hr with ⟨A, f, C, rfl, e⟩ | ⟨A, C, rfl, hA, hC⟩
  · refine ⟨A, f, C, rfl, e, ?_, ?_⟩
    · unfold Fl.key; rw [e]
    · have h1 := hat .nil
      have e5 : f.n.data.toList = x := by rw [e]
      rw [← e5, at_some hr] at h1
      obtain ⟨y1, y2⟩ := y
      have h1 : DataW.lit (Lit.int IntKind.i64 (f.b : Int)) = y1 := h1
      subst h1
      have := Rp_int hy
      cases c with
      | none => cases this
      | some c =>
        have : Value.pointer (some ⟨c, 0, none⟩) = .pointer (some ⟨f.b, 0, none⟩) := this
        exact congrArg some (congrArg Addr.block (Option.some.inj (Value.pointer.inj this)))
  · have h1 := hat .nil
    have h2 := hat (.agg [])
    have e0 := fun z => at_none (not_in hA hC) z
    have e1 := e0 .nil
    have e2 := e0 (.agg [])
    rw [ex] at e1 e2
    rw [e1] at h1
    rw [e2] at h2
    have h3 := h1.trans h2.symm
    cases h3
theorem done_start (fs : List Fl) : doneF (Maps.has (mapD fs)) fs = [] := by
  unfold doneF
  rw [List.filter_eq_nil_iff]
  intro f hf
  have : Maps.has (mapD fs) f.key = true := (has_iff fs f.n).2 ⟨f, hf, rfl⟩
  rw [this]
  decide
theorem done_end {left : Lit → Bool} (h : ∀ kl, left kl = false) (fs : List Fl) : doneF left fs = fs := List.filter_eq_self.2 fun f _ => by rw [h]; rfl
theorem key_ne {f g : Fl} (h : f.n ≠ g.n) : f.key.sameKey g.key = false := by
  show (Lit.string f.n.data.toList).sameKey (.string g.n.data.toList) = false
  rw [sameKey_str, decide_eq_false h]
theorem done_step {A C : List Fl} {f : Fl} (hr : Ris (A ++ f :: C)) {left : Lit → Bool} (hl : left f.key = true) : doneF (fun z => left z && !z.sameKey f.key) (A ++ f :: C) = doneF left A ++ f :: doneF left C ∧ doneF left (A ++ f :: C) = doneF left A ++ doneF left C := by
  obtain ⟨h1, h2, _⟩ := rise_mid hr
  have same : ∀ l : List Fl, (∀ g ∈ l, g.n ≠ f.n) → doneF (fun z => left z && !z.sameKey f.key) l = doneF left l := fun l hl => by
    unfold doneF
    refine List.filter_congr fun g hg => ?_
    show (!(left g.key && !g.key.sameKey f.key)) = _
    rw [key_ne (hl g hg)]
    simp
  have sf : f.key.sameKey f.key = true := by
    show (Lit.string f.n.data.toList).sameKey (.string f.n.data.toList) = true
    rw [sameKey_str, decide_eq_true rfl]
  refine ⟨?_, ?_⟩
  · have e := same A fun g hg => bef_ne (h1 g hg)
    have e' := same C fun g hg e => bef_ne (h2 g hg) e.symm
    unfold doneF at *
    rw [List.filter_append, e, List.filter_cons, if_pos (by show (!(left f.key && !f.key.sameKey f.key)) = true; rw [sf]; simp), e']
  · unfold doneF
    rw [List.filter_append, List.filter_cons, if_neg (by rw [hl]; decide)]
def sumQ (q : Fl → Nat) (fs : List Fl) : Nat := (fs.map q).sum
theorem sumQ_step {A C : List Fl} {f : Fl} (hr : Ris (A ++ f :: C)) {left : Lit → Bool} (hl : left f.key = true) (q : Fl → Nat) : sumQ q (doneF (fun z => left z && !z.sameKey f.key) (A ++ f :: C)) = sumQ q (doneF left (A ++ f :: C)) + q f := by
  obtain ⟨e1, e2⟩ := done_step hr hl
  rw [e1, e2]
  unfold sumQ
  simp
  omega
theorem sumQ_le (q : Fl → Nat) (left : Lit → Bool) (fs : List Fl) : sumQ q (doneF left fs) ≤ sumQ q fs := by
  unfold doneF sumQ
  induction fs with
  | nil => exact Nat.le_refl _
  | cons a t ih =>
    rw [List.filter_cons]
    split
    · simp only [List.map_cons, List.sum_cons]; omega
    · simp only [List.map_cons, List.sum_cons]; omega

set_option maxHeartbeats 1000000 in
theorem ask_size {B : Nat} {f : Fl} {w : World} (h : FlAt w B f) : Calls Tryz.prog 65 #[.pointer (some ⟨f.b, 0, none⟩)] w fun e w' => e = .returned (.int .i64 (f.d.length : Int)) ∧ Below w.heap.size w w' := by
  obtain ⟨A1, q1, e1, _, _, _, _⟩ := h.row.sla
  have m0 : w.cell? ⟨f.b, 0, none⟩ = some (.slice A1 f.d.length q1) := by rw [← e1]; exact h.blk.cell 0
  clear h e1
  go_enter Tryz.func65, Tryz.ntmps65
  go_wp2
  go_ret
  exact ⟨rfl, Below.refl _ _⟩

/-- Where a range over the files is. -/
structure RgS (w wr : World) (B mb r : Nat) (fs : List Fl) (left : Lit → Bool) (cnt : Nat) : Prop where
  rg : wr.ranges Tryz.prog 9 Rp mb r fs.length (mapD fs) left cnt
  b : Below w.heap.size w wr
  fl : ∀ f ∈ fs, FlAt wr B f
theorem RgS.below {w wr w' : World} {B mb r : Nat} {fs : List Fl} {left : Lit → Bool} {cnt : Nat} (h : RgS w wr B mb r fs left cnt) (hb : Below wr.heap.size wr w') : RgS w w' B mb r fs left cnt := by
  refine ⟨?_, h.b.trans (hb.mono h.b.size), fun f hf => (h.fl f hf).keep fun k q => hb.block k ((h.fl f hf).lt q).2⟩
  obtain ⟨es, clock, since, seen, c0, hb1, F, hs, hD, hr1, rest⟩ := h.rg
  exact ⟨es, clock, since, seen, c0, (hb.block mb h.rg.owns.lt).trans hb1, F, hs, hD, (hb.block r h.rg.lt).trans hr1, rest⟩
theorem RgS.step {w wr w1 : World} {B mb r : Nat} {fs : List Fl} {left left' : Lit → Bool} {cnt cnt' : Nat} (h : RgS w wr B mb r fs left cnt) (hr : w.heap.size ≤ r) (hrg : w1.ranges Tryz.prog 9 Rp mb r fs.length (mapD fs) left' cnt') (hg : wr.grownBy w1 (some r)) : RgS w w1 B mb r fs left' cnt' := by
  refine ⟨hrg, h.b.grown hg h.b.size (fun k e => by cases e; exact hr), fun f hf => (h.fl f hf).keep fun k q => hg.block k ((h.fl f hf).lt q).2 fun e => ?_⟩
  have e : k = r := Option.some.inj e
  subst e
  have hk := (h.fl f hf)
  obtain ⟨es, clock, since, seen, c0, _, _, _, _, hr1, _⟩ := h.rg
  rcases q with q | q | q
  · have := hk.blk; unfold Blk at this; rw [← q, hr1] at this; cases this
  · obtain ⟨cur, hc⟩ := own_blk hk.row q; unfold Blk at hc; rw [hr1] at hc; cases hc
  · obtain ⟨cur, hc⟩ := own_blk hk.run q; unfold Blk at hc; rw [hr1] at hc; cases hc

set_option maxRecDepth 100000 in
set_option maxHeartbeats 4000000 in
theorem total_size {B db mb : Nat} {fs : List Fl} {z s u : Int} {w : World} (h : Dk w B db mb fs z s u) (hq : sumQ (fun f => f.d.length) fs ≤ 1000000000)  :
    Calls Tryz.prog 64 #[.pointer (some ⟨db, 0, none⟩), .func (.func 65) #[] #[]] w fun e w' => e = .returned (.int .i64 ((sumQ (fun f => f.d.length) fs : Nat) : Int)) ∧ Below w.heap.size w w' := by
  have m0 : w.cell? ⟨db, 0, none⟩ = some (.map (some mb)) := h.blk.cell 0
  have HD := hid h
  have HQ := hid hq
  have HA : Hid (∀ f ∈ fs, ∀ W, FlAt W B f → Calls Tryz.prog 65 #[.pointer (some ⟨f.b, 0, none⟩)] W fun e w' => e = .returned (.int .i64 ((f.d.length : Nat) : Int)) ∧ Below W.heap.size W w') := fun f hf W hW => ask_size hW
  clear h hq
  go_enter Tryz.func64, Tryz.ntmps64
  go_wp2_with (first | (at_range; refine wpList_range_own _ rfl _ 88 rfl 9 99 strK Tryz.underlying88 Rp mb _ _ rfl HD.out.map ?_; intro w0 hrg0 hg0 hs0) | go_in)
  go_frame
  have hst : RgS w w0 B mb w.heap.size fs (Maps.has (mapD fs)) (Maps.size (mapD fs)) := ⟨hrg0, (Below.refl _ _).grown hg0 (Nat.le_refl _) (fun k e => by cases e), fun f hf => (HD.out.fl f hf).keep fun k q => hg0.block k (HD.out.lts hf q) (by simp)⟩
  have HST := hid hst
  clear hrg0 hg0 hs0 hst m0
  go_loopw [5] (fun vn wr => ∃ (left : Lit → Bool) (cnt : Nat), vn = .int .i64 ((sumQ (fun f => f.d.length) (doneF left fs) : Nat) : Int) ∧ Hid (RgS w wr B mb w.heap.size fs left cnt)) (fun _ wr => wr.rangeLeft mb w.heap.size)
  case atStart => exact ⟨_, _, by rw [done_start]; rfl, HST⟩
  case round =>
    obtain ⟨left, cnt, rfl, HR⟩ := hrel
    go_wp2_with (at_next; refine wpList_next_ranges _ rfl _ rfl 9 strK Rp Go.Proofs.encStr ptrB (fun key kl hk => by obtain ⟨x, hx, _⟩ := Maps.keyOf_str Tryz.underlying9 hk; exact ⟨x, hx⟩) (fun v y hv => Rp_inv hv) mb w.heap.size fs.length (mapD fs) left cnt rfl HR.out.rg ?_ ?_)
    · intro hc0 hl0
      go_wp2
      go_ret
      rw [done_end hl0]
      exact ⟨rfl, HR.out.b⟩
    · intro x c kl y1 y2 w1 cnt1 hkey hlk hv hat hrg1 hlt hg1 hs1 hen
      obtain ⟨A, f, C, e1, e2, e3, e4⟩ := next_file (y := (y1, y2)) HD.out.ri hkey hv hat
      subst e4
      have hen : (Instr.entry (.pointer (some ⟨w.heap.size, 0, none⟩))).run Tryz.prog w1 = .ok (.tuple #[Go.Proofs.encStr x, .pointer (some ⟨f.b, 0, none⟩)]) w1 := hen
      have HR1 := hid (HR.out.step (Nat.le_refl _) hrg1 hg1)
      have hfin : f ∈ fs := by rw [e1]; simp
      have HC := hid (HA.out f hfin w1 (HR1.out.fl f hfin))
      have hri := HD.out.ri
      rw [e1] at hri
      rw [e3] at hlk
      have hsum := sumQ_step hri hlk (fun f => f.d.length)
      rw [← e1, ← e3] at hsum
      have hle := sumQ_le (fun f => f.d.length) (fun z => left z && !z.sameKey kl) fs
      have hqq := HQ.out
      obtain ⟨N, hN⟩ : ∃ N, sumQ (fun f => f.d.length) (doneF left fs) = N := ⟨_, rfl⟩
      obtain ⟨M, hM⟩ : ∃ M, f.d.length = M := ⟨_, rfl⟩
      rw [hM] at HC
      have hsum2 : sumQ (fun f => f.d.length) (doneF (fun z => left z && !z.sameKey kl) fs) = N + M := by rw [hsum, hN, hM]
      rw [hN]
      have hw : IntKind.i64.wrap ((N : Int) + (M : Int)) = ((N + M : Nat) : Int) := by rw [IntKind.wrap_i64]; omega
      have HS := hid hsum2
      have HLT := hid (show w1.rangeLeft mb w.heap.size < wr.rangeLeft mb w.heap.size by rw [hrg1.left_eq, HR.out.rg.left_eq]; exact hlt)
      clear hkey hlk hv hat hrg1 hlt hg1 hs1 e1 e2 e3 hfin hri hsum hsum2 hle hqq hN hM
      go_wp2_with (go_at_call 65; refine HC.out.mono ?_; rintro e w2 ⟨rfl, hb2⟩)
      go_roundw
      case rel => exact ⟨fun z => left z && !z.sameKey kl, cnt1, by rw [HS.out]; first | rfl | simp, HR1.out.below hb2⟩
      case measure =>
        have e1 := HR1.out.rg.left_eq
        have e2 := (HR1.out.below hb2).rg.left_eq
        have := HLT.out
        rw [e2, ← e1]
        exact this

end Go.Proofs.YtofkfafdodhmdaaGreatDoor

/- Rows of pieces, their sort: what (*store.Disk).waiting leans on. Conditions: as each theorem names them. -/
namespace Go.Proofs.YtofkfafdodhmdaaGreatDoor
open Go.RowKit

/-- A piece: the file's block, how many were written ahead of it, how many bytes. -/
abbrev Pc := Nat × Nat × Nat
def encP (x : Pc) : List Value := [.pointer (some ⟨x.1, 0, none⟩), .int .i64 (x.2.1 : Int), .int .i64 (x.2.2 : Int)]
def flatP (l : List Pc) : List Value := l.flatMap encP
theorem flatP_len (l : List Pc) : (flatP l).length = l.length * 3 := by
  unfold flatP
  induction l with
  | nil => rfl
  | cons a t ih =>
    rw [List.flatMap_cons, List.length_append, ih, List.length_cons]
    show 3 + _ = _
    omega
theorem flatP_app (l m : List Pc) : flatP (l ++ m) = flatP l ++ flatP m := by unfold flatP; simp
theorem flatP_at : ∀ (l : List Pc) (i c : Nat) (hi : i < l.length), c < 3 → (flatP l)[i * 3 + c]? = (encP l[i])[c]?
  | [], i, _, hi, _ => absurd hi (by simp)
  | a :: t, 0, c, _, hc => by
    show (encP a ++ flatP t)[0 * 3 + c]? = (encP a)[c]?
    rw [List.getElem?_append_left (by show 0 * 3 + c < 3; omega), show 0 * 3 + c = c by omega]
  | a :: t, i + 1, c, hi, hc => by
    have hi' : i < t.length := by simpa using hi
    show (encP a ++ flatP t)[(i + 1) * 3 + c]? = (encP t[i])[c]?
    rw [List.getElem?_append_right (by show 3 ≤ _; omega), show (i + 1) * 3 + c - (encP a).length = i * 3 + c by show (i + 1) * 3 + c - 3 = _; omega]
    exact flatP_at t i c hi' hc
abbrev PRow (w : World) (B : Nat) (v : Value) (l : List Pc) : Prop := w.ownsRow B 117 3 v l.length (flatP l)
theorem prow_form {w : World} {B : Nat} {v : Value} {l : List Pc} (h : PRow w B v l) : ∃ A c, v = .slice A l.length c := by
  rcases h.2 with ⟨e, e2⟩ | ⟨g, cap, _, e, _⟩
  · exact ⟨none, 0, by rw [e, e2]⟩
  · exact ⟨_, cap, e⟩
theorem prow_some {w : World} {B : Nat} {v : Value} {l : List Pc} (h : PRow w B v l) (h0 : l ≠ []) : ∃ g cap, v = .slice (some ⟨g, 0, none⟩) l.length cap ∧ B ≤ g ∧ g < w.heap.size := by
  rcases h.2 with ⟨_, e⟩ | ⟨g, cap, cur, e, hB, hb, _⟩
  · exact absurd (List.eq_nil_of_length_eq_zero e) h0
  · exact ⟨g, cap, e, hB, Blk.lt (T := 117) hb⟩
theorem info_piece : (Tryz.prog.info? 117).map (fun i => (i.zero, i.size, i.bytes)) = some (some (.agg #[.pointer none, .int .i64 0, .int .i64 0]), 3, 24) := by kernel_rfl
/-- The slice holds the pieces. -/
def PHold (w : World) (B : Nat) (v : Value) (l : List Pc) : Prop := ∃ A c, v = .slice A l.length c ∧ ∀ i (h : i < l.length), ∃ b, A = some ⟨b, 0, none⟩ ∧ B ≤ b ∧ w.cell? ⟨b, i * 3, none⟩ = some (.pointer (some ⟨l[i].1, 0, none⟩)) ∧ w.cell? ⟨b, i * 3 + 1, none⟩ = some (.int .i64 (l[i].2.1 : Int)) ∧ w.cell? ⟨b, i * 3 + 2, none⟩ = some (.int .i64 (l[i].2.2 : Int))

section
variable {ops : Array Oper} {rest : List Oper} {o : Oper} {a : Act} {Q : Exit → Act → World → Prop}
/-- append of a piece. -/
theorem wpList_append_pc (hgd : o.guard = Option.none) (s x : Operand)
    (ho : o.op = .call { callee := .builtin .append, args := #[s, x], argTypes := #[112, 112] })
    (w : World) (base : Nat) (v : Value) (l : List Pc) (hs : a.eval s = v) (hown : PRow w base v l)
    (G c : Nat) (y : Pc) (hx : a.eval x = .slice (some ⟨G, 0, Option.none⟩) 1 c) (hc : ∀ j u, (encP y)[j]? = some u → w.cell? ((⟨G, 0, Option.none⟩ : Addr).add j) = some u)
    (hlen : l.length ≤ 1000000) (hbase : base ≤ w.heap.size)
    (h : ∀ v' w', PRow w' base v' (l ++ [y]) → w.grownBy w' v.ownBlock → (v'.ownBlock = v.ownBlock ∨ v'.ownBlock = some w.heap.size) → wpList Tryz.prog ops Q rest (a.put o.dst v') w') : wpList Tryz.prog ops Q (o :: rest) a w := by
  obtain ⟨i0, hi, hz0, hz1, hz2⟩ := info_parts info_piece
  refine wpList_append_own_at w hgd s x 112 ho base 117 i0 _ 3 24 Tryz.underlying112 hi hz0 hz1 hz2 rfl (by decide) v l.length (flatP l) hs hown ⟨G, 0, Option.none⟩ 1 c (encP y) hx rfl hc (fun u hu => by simp [encP] at hu; rcases hu with rfl | rfl | rfl <;> rfl) (by unfold maxLen; omega) (by omega) hbase ?_
  intro v' w' h1 h2 _ h4
  refine h v' w' ?_ h2 h4
  unfold PRow
  rw [flatP_app, List.length_append]
  exact h1
end

set_option maxHeartbeats 1000000 in
theorem pcmp_any (x y : Pc) (W : World) : Calls Tryz.prog 94 #[.agg (encP x).toArray, .agg (encP y).toArray] W fun e w' => e = .returned (.int .i64 (Lib.compareInt (x.2.1 : Int) (y.2.1 : Int))) ∧ ∃ q os', w' = Go.Sort.grow (W.drewN q) os' := by
  have hcon := fun W' => AnyG.cmp_Compare_int Tryz.cmpInt (x.2.1 : Int) (y.2.1 : Int) W'
  change ∀ W', Calls Tryz.prog 95 _ _ _ at hcon
  generalize Lib.compareInt (x.2.1 : Int) (y.2.1 : Int) = r at hcon ⊢
  unfold encP
  obtain ⟨x1, x2, x3⟩ := x
  obtain ⟨y1, y2, y3⟩ := y
  dsimp only at hcon ⊢
  go_enter Tryz.func94, Tryz.ntmps94
  go_wp2_with (go_at_call 95; refine (hcon _).mono ?_; rintro e w' ⟨rfl, rfl⟩)
  go_ret
  exact ⟨rfl, 0, _, by rw [Go.Sort.alloc_eq_grow, Go.Sort.alloc_eq_grow, Go.Sort.grow_grow]; rfl⟩
theorem ltPc (x y : Pc) : ltOf (fun x y : Pc => Lib.compareInt (x.2.1 : Int) (y.2.1 : Int)) x y = decide (x.2.1 < y.2.1) := by
  unfold ltOf Lib.compareInt
  by_cases h1 : x.2.1 < y.2.1
  · simp [h1]
  · by_cases h2 : y.2.1 < x.2.1 <;> simp [h1, h2]
theorem swoPc : Go.Sort.SWO (ltOf fun x y : Pc => Lib.compareInt (x.2.1 : Int) (y.2.1 : Int)) where
  irrefl x := by rw [ltPc]; simp
  trans x y z h1 h2 := by rw [ltPc] at *; simp at *; omega
  ntrans x y z h1 h2 := by rw [ltPc] at *; simp at *; omega
theorem isAggP (w : World) : (isAgg 117).run Tryz.prog w = .ok true w := by kernel_rfl
theorem sizeOfP (w : World) : (Go.sizeOf 117).run Tryz.prog w = .ok 3 w := by kernel_rfl
/-- slices.SortFunc at pieces. -/
theorem sort_pc {w : World} {B : Nat} {v : Value} {l : List Pc} (h : PRow w B v l) (hl : l.length ≤ 1000000) : Calls Tryz.prog 93 #[v, .func (.func 94) #[] #[]] w fun e w' => e = .returned (.tuple #[]) ∧ (∃ l' : List Pc, l'.Perm l ∧ l'.Pairwise (fun x y => x.2.1 ≤ y.2.1) ∧ PHold w' B v l') ∧ Below B w w' := by
  by_cases h0 : l = []
  · subst h0
    obtain ⟨A, c, e⟩ := prow_form h
    subst e
    refine (AnyF.slices_SortFunc_none (P := Tryz.prog) (ρ := Tryz.sortPiece_ren) { Tryz.sortPiece with } A c _ w).mono ?_
    rintro e w' ⟨rfl, rfl⟩
    exact ⟨rfl, ⟨[], List.Perm.refl _, List.Pairwise.nil, A, c, rfl, fun i hi => absurd hi (by simp)⟩, Below.refl _ _⟩
  · obtain ⟨g, cap, e, hB, hlt⟩ := prow_some h h0
    subst e
    have eg : ∀ args w, (callFunc 94 args).run Tryz.prog w = .ok (.enter 94 args) w := enters_of Tryz.func94 (by kernel_rfl) rfl
    have hH : Go.Sort.HoldsK encP 3 w g 0 l.toArray := by
      intro j hj
      rw [Go.Sort.size_flatK] at hj
      have hj2 : j < l.length * 3 := by simpa using hj
      have hi : j / 3 < l.length := by omega
      rw [Go.Sort.get_flatK _ _ _ _ hj]
      have e1 : (l.toArray)[j / 3]! = l[j / 3] := by rw [getElem!_pos l.toArray (j / 3) (by simpa using hi)]; simp
      rw [e1]
      have hat := flatP_at l (j / 3) (j % 3) hi (by omega)
      rw [show j / 3 * 3 + j % 3 = j by omega] at hat
      have hlt3 : j % 3 < (encP l[j / 3]).length := by show j % 3 < 3; omega
      rw [List.getElem?_eq_getElem hlt3] at hat
      have hc := own_cells h hat
      rw [getElem!_pos (encP l[j / 3]) (j % 3) hlt3, Nat.zero_add]
      exact hc
    have hcon := AnyQ.slices_SortFunc Tryz.sortPiece 3 isAggP sizeOfP encP (fun _ => rfl) (fun x v hv => by simp [encP] at hv; rcases hv with rfl | rfl | rfl <;> rfl) (fun x y : Pc => Lib.compareInt (x.2.1 : Int) (y.2.1 : Int)) swoPc 94 #[] g 0 cap l.toArray w eg (fun _ _ _ _ x y => pcmp_any x y _) hH hlt (by simp; omega)
    have es : (l.toArray).size = l.length := by simp
    rw [es] at hcon
    refine hcon.mono ?_
    rintro e w' ⟨rfl, d', n, os, hp, hsr, rfl⟩
    obtain ⟨p1, _, p3⟩ := hp
    have hd : d'.size = l.length := by rw [p1]; simp
    have hperm : d'.toList.Perm l := by
      have a1 : d'.extract 0 l.length = d' := by rw [← hd]; simp
      have a2 : (l.toArray).extract 0 l.length = l.toArray := by simp
      rw [a1, a2] at p3
      simpa using p3
    have hL : d'.toList.length = l.length := by simpa using hd
    have hK := Go.Proofs.holdsK_sortWorldK_c encP 3 w g 0 l.toArray d' n os hH hlt (by simpa using hd)
    refine ⟨rfl, ⟨d'.toList, hperm, ?_, some ⟨g, 0, none⟩, cap, by rw [hL], fun i hi => ⟨g, rfl, hB, ?_⟩⟩, ?_⟩
    · rw [List.pairwise_iff_getElem]
      intro i j hi hj hij
      have := hsr i j (Nat.zero_le _) hij (by omega)
      rw [ltPc, decide_eq_false_iff_not, getElem!_pos d' j (by simpa using hj), getElem!_pos d' i (by simpa using hi)] at this
      simp only [Array.getElem_toList]
      omega
    · have hi2 : i < d'.size := by simpa using hi
      have c0 := (hK.cell hi2 (c := 0) (by omega)).1
      have c1 := (hK.cell hi2 (c := 1) (by omega)).1
      have c2 := (hK.cell hi2 (c := 2) (by omega)).1
      rw [getElem!_pos d' i hi2] at c0 c1 c2
      rw [Nat.zero_add] at c0 c1 c2
      simp only [Array.getElem_toList]
      exact ⟨c0, c1, c2⟩
    · unfold Go.Proofs.sortWorldK Go.Sort.putRowK Go.Sort.putRow Go.Sort.mapBlock Go.Sort.grow Go.Sort.ahead
      refine ⟨rfl, rfl, rfl, by simp, fun k hk => ?_⟩
      show ((w.heap.modify g _) ++ os)[k]? = w.heap[k]?
      rw [Array.getElem?_append_left (by rw [Array.size_modify]; omega), Array.getElem?_modify, if_neg (by omega)]
end Go.Proofs.YtofkfafdodhmdaaGreatDoor

/- (*store.Disk).waiting. Conditions: the disk stands, with less than a hundred thousand runs. -/
namespace Go.Proofs.YtofkfafdodhmdaaGreatDoor
open Go.RowKit

def pcsF (f : Fl) : List Pc := f.l.map fun r => (f.b, r.1, r.2)
def allP (fs : List Fl) : List Pc := fs.flatMap pcsF
theorem allP_len (fs : List Fl) : (allP fs).length = sumQ (fun f => f.l.length) fs := by
  unfold allP sumQ
  induction fs with
  | nil => rfl
  | cons a t ih => rw [List.flatMap_cons, List.length_append, ih, List.map_cons, List.sum_cons]; unfold pcsF; rw [List.length_map]
theorem allP_step {A C : List Fl} {f : Fl} (hr : Ris (A ++ f :: C)) {left : Lit → Bool} (hl : left f.key = true) : (allP (doneF left (A ++ f :: C)) ++ pcsF f).Perm (allP (doneF (fun z => left z && !z.sameKey f.key) (A ++ f :: C))) := by
  obtain ⟨e1, e2⟩ := done_step hr hl
  rw [e1, e2]
  unfold allP
  rw [List.flatMap_append, List.flatMap_append, List.flatMap_cons, List.append_assoc]
  exact List.Perm.append_left _ List.perm_append_comm
theorem pcs_take {f : Fl} {k a s : Nat} (hk : k < f.l.length) (h : f.l[k] = (a, s)) : (pcsF f).take (k + 1) = (pcsF f).take k ++ [(f.b, a, s)] := by
  unfold pcsF
  have hk3 : k < (f.l.map fun r => (f.b, r.1, r.2)).length := by rw [List.length_map]; exact hk
  rw [List.take_succ_eq_append_getElem hk3, List.getElem_map, h]
theorem RgS.chg {w wr w' : World} {B mb r : Nat} {fs : List Fl} {left : Lit → Bool} {cnt : Nat} (h : RgS w wr B mb r fs left cnt) (hlt : ∀ f ∈ fs, ∀ k, f.has k → k < w.heap.size) (hmb : mb < w.heap.size) (hc : Chg (fun k => w.heap.size ≤ k ∧ k ≠ r) wr w') : RgS w w' B mb r fs left cnt := by
  have hb : Below w.heap.size wr w' := ⟨hc.os, hc.tape, hc.output, hc.size, fun k hk => hc.block k (Nat.lt_of_lt_of_le hk h.b.size) fun q => by omega⟩
  refine ⟨?_, h.b.trans hb, fun f hf => (h.fl f hf).keep fun k q => hb.block k (hlt f hf k q)⟩
  obtain ⟨es, clock, since, seen, c0, hb1, F, hs, hD, hr1, rest⟩ := h.rg
  exact ⟨es, clock, since, seen, c0, (hb.block mb hmb).trans hb1, F, hs, hD, (hc.block r h.rg.lt fun q => q.2 rfl).trans hr1, rest⟩
theorem prow_ne {w wr : World} {B mb r : Nat} {fs : List Fl} {left : Lit → Bool} {cnt B2 : Nat} {v : Value} {l : List Pc} (h : RgS w wr B mb r fs left cnt) (hp : PRow wr B2 v l) {g : Nat} (hg : v.ownBlock = some g) : B2 ≤ g ∧ g ≠ r := by
  refine ⟨(World.ownsRow.lt hp g hg).1, fun e => ?_⟩
  obtain ⟨cur, hc⟩ := own_blk hp hg
  obtain ⟨es, clock, since, seen, c0, _, _, _, _, hr1, _⟩ := h.rg
  unfold Blk at hc
  rw [e, hr1] at hc
  cases hc
theorem cell_three (w : World) (y : Pc) (t : TypeId) (G : Nat) (hG : G = w.heap.size) : ∀ j u, (encP y)[j]? = some u → (w.alloc (.cells #[.pointer (some ⟨y.1, 0, none⟩), .int .i64 (y.2.1 : Int), .int .i64 (y.2.2 : Int)] t)).cell? ((⟨G, 0, Option.none⟩ : Addr).add j) = some u := by
  subst hG
  intro j u hj
  rw [add_zero_off, World.cell?_alloc_at _ _ _ _ rfl]
  match j, hj with
  | 0, hj => simpa [encP] using hj
  | 1, hj => simpa [encP] using hj
  | 2, hj => simpa [encP] using hj

/-- Where waiting is. -/
structure WaS (w wr : World) (B mb : Nat) (fs : List Fl) (left : Lit → Bool) (cnt : Nat) (v : Value) (ps : List Pc) : Prop where
  rg : RgS w wr B mb w.heap.size fs left cnt
  pr : PRow wr w.heap.size v ps
  sz : w.heap.size ≤ wr.heap.size

set_option maxRecDepth 100000 in
set_option maxHeartbeats 8000000 in
theorem waiting_ok {B db mb : Nat} {fs : List Fl} {z s u : Int} {w : World} (h : Dk w B db mb fs z s u) (hq : sumQ (fun f => f.l.length) fs ≤ 100000) :
    Calls Tryz.prog 63 #[.pointer (some ⟨db, 0, none⟩)] w fun e w' => ∃ v l, e = .returned v ∧ PHold w' w.heap.size v l ∧ l.Perm (allP fs) ∧ l.Pairwise (fun x y => x.2.1 ≤ y.2.1) ∧ Below w.heap.size w w' := by
  have m0 : w.cell? ⟨db, 0, none⟩ = some (.map (some mb)) := h.blk.cell 0
  have HD := hid h
  have HQ := hid hq
  have HLT : Hid (∀ f ∈ fs, ∀ k, f.has k → k < w.heap.size) := fun f hf k q => h.lts hf q
  have HMB : Hid (mb < w.heap.size) := h.map.lt
  clear h hq
  go_enter Tryz.func63, Tryz.ntmps63
  go_wp2_with (first | (at_range; refine wpList_range_own _ rfl _ 88 rfl 9 99 strK Tryz.underlying88 Rp mb _ _ rfl HD.out.map ?_; intro w0 hrg0 hg0 hs0) | go_in)
  go_frame
  have hst : RgS w w0 B mb w.heap.size fs (Maps.has (mapD fs)) (Maps.size (mapD fs)) := ⟨hrg0, (Below.refl _ _).grown hg0 (Nat.le_refl _) (fun k e => by cases e), fun f hf => (HD.out.fl f hf).keep fun k q => hg0.block k (HD.out.lts hf q) (by simp)⟩
  have HST := hid hst
  clear hrg0 hg0 hs0 hst m0
  go_loopw [3] (fun vl wr => ∃ (left : Lit → Bool) (cnt n c : Nat) (A : Option Addr) (ps : List Pc), vl = .slice A n c ∧ Hid (ps.Perm (allP (doneF left fs)) ∧ WaS w wr B mb fs left cnt (.slice A n c) ps)) (fun _ wr => wr.rangeLeft mb w.heap.size)
  case atStart => exact ⟨_, _, 0, 0, none, [], rfl, by rw [done_start]; exact List.Perm.refl _, HST.out, ⟨rfl, .inl ⟨rfl, rfl⟩⟩, HST.out.b.size⟩
  case round =>
    obtain ⟨left, cnt, n, c, A, ps, rfl, HR⟩ := hrel
    obtain ⟨wo, hwo⟩ : ∃ x, x = wr := ⟨_, rfl⟩
    subst hwo
    go_wp2_with (at_next; refine wpList_next_ranges _ rfl _ rfl 9 strK Rp Go.Proofs.encStr ptrB (fun key kl hk => by obtain ⟨x, hx, _⟩ := Maps.keyOf_str Tryz.underlying9 hk; exact ⟨x, hx⟩) (fun v y hv => Rp_inv hv) mb w.heap.size fs.length (mapD fs) left cnt rfl HR.out.2.rg.rg ?_ ?_)
    · intro hc0 hl0
      have hpl : ps.length ≤ 1000000 := by
        have := HR.out.1.length_eq
        rw [allP_len] at this
        have h2 := sumQ_le (fun f => f.l.length) left fs
        have := HQ.out
        omega
      have HSo := hid (sort_pc HR.out.2.pr hpl)
      have HL0 := hid hl0
      clear hc0 hl0 hpl
      go_wp2_with (go_at_call 93; refine HSo.out.mono ?_; rintro e w2 ⟨rfl, ⟨l', q1, q2, q3⟩, q4⟩)
      go_ret
      have hp := HR.out.1
      rw [done_end HL0.out] at hp
      exact ⟨_, l', rfl, q3, q1.trans hp, q2, HR.out.2.rg.b.trans q4⟩
    · intro x cc kl y1 y2 w1 cnt1 hkey hlk hv hat hrg1 hlt hg1 hs1 hen
      obtain ⟨A1, f, C1, e1, e2, e3, e4⟩ := next_file (y := (y1, y2)) HD.out.ri hkey hv hat
      subst e4
      have hen2 : (Instr.entry (.pointer (some ⟨w.heap.size, 0, none⟩))).run Tryz.prog w1 = .ok (.tuple #[Go.Proofs.encStr x, .pointer (some ⟨f.b, 0, none⟩)]) w1 := hen
      clear hen
      have HR1 := hid (HR.out.2.rg.step (Nat.le_refl _) hrg1 hg1)
      have hfin : f ∈ fs := by rw [e1]; simp
      have hri := HD.out.ri
      rw [e1] at hri
      rw [e3] at hlk
      have hperm := allP_step hri hlk
      rw [← e1, ← e3] at hperm
      have hpm := (HR.out.1.append_right (pcsF f)).trans hperm
      have HPM := hid hpm
      have hlen : ps.length + f.l.length ≤ 100000 := by
        have h1 := hpm.length_eq
        rw [allP_len, List.length_append] at h1
        have h2 := sumQ_le (fun f => f.l.length) (fun z => left z && !z.sameKey kl) fs
        have h3 := HQ.out
        have h4 : (pcsF f).length = f.l.length := by unfold pcsF; rw [List.length_map]
        omega
      have HLen := hid hlen
      have HLTm := hid (show w1.rangeLeft mb w.heap.size < wo.rangeLeft mb w.heap.size by rw [hrg1.left_eq, HR.out.2.rg.rg.left_eq]; exact hlt)
      have hnr := fun g q => prow_ne HR.out.2.rg HR.out.2.pr (g := g) q
      have hpr1 : PRow w1 w.heap.size (.slice A n c) ps := own_block0 HR.out.2.pr fun g q => hg1.block g (World.ownsRow.lt HR.out.2.pr g q).2 fun e => (hnr g q).2 (Option.some.inj e)
      have HW1 : Hid (WaS w w1 B mb fs (fun z => left z && !z.sameKey kl) cnt1 (.slice A n c) ps) := ⟨HR1.out, hpr1, HR1.out.b.size⟩
      have HFin := hid hfin
      obtain ⟨nf, hnf⟩ : ∃ nf, f.l.length = nf := ⟨_, rfl⟩
      have hlv : ∃ Af cf, f.lv = .slice Af nf cf := by
        rcases (HR1.out.fl f hfin).run.2 with ⟨e, e'⟩ | ⟨g, cap, _, e, _⟩
        · exact ⟨none, 0, by rw [e, ← hnf, e']⟩
        · exact ⟨_, cap, by rw [e, hnf]⟩
      obtain ⟨Af, cf, elv⟩ := hlv
      have k2 : w1.cell? ⟨f.b, 2, none⟩ = some (.slice Af nf cf) := by rw [← elv]; exact (HR1.out.fl f hfin).blk.cell 2
      have HNF := hid hnf
      have HLV := hid elv
      clear hkey hlk hv hat hrg1 hlt hg1 hs1 e1 e2 e3 hfin hri hperm hpm hnr hpr1 hlen hnf elv HR1
      dsimp only [ptrB, Option.map_some]
      go_wp2
      go_loopw [3, 22] (fun vl vi wr => ∃ (k n c : Nat) (A : Option Addr), vl = .slice A n c ∧ vi = .int .i64 (k : Int) ∧ k ≤ nf ∧ Hid (∃ cnt, WaS w wr B mb fs (fun z => left z && !z.sameKey kl) cnt (.slice A n c) (ps ++ (pcsF f).take k) ∧ cnt = cnt1)) (fun _ vi _ => nf - (intOf vi).toNat)
      case atStart => exact ⟨0, n, c, A, rfl, rfl, Nat.zero_le _, cnt1, by rw [List.take_zero, List.append_nil]; exact HW1.out, rfl⟩
      case round =>
        obtain ⟨k, n2, c2, A2, rfl, rfl, hk, HI⟩ := hrel
        by_cases hkn : k < nf
        · have hkb : k < 1000000 := by have := HLen.out; rw [HNF.out] at this; omega
          have hkl : k < f.l.length := by rw [HNF.out]; exact hkn
          obtain ⟨cn, hW, hcn⟩ := HI.out
          have hF := hW.rg.fl f HFin.out
          obtain ⟨g, cap, e⟩ := rrow_form hF.run (fun e => by rw [e] at hkl; exact absurd hkl (by simp))
          have e5 := HLV.out.symm.trans e
          injection e5 with e6 e7 e8
          subst e6
          clear e7 e8
          have hrun : wr.ownsRow B 115 2 (.slice (some ⟨g, 0, none⟩) f.l.length cap) f.l.length (flatR f.l) := by have := hF.run; unfold RRow at this; rw [e] at this; exact this
          obtain ⟨⟨a, s⟩, has⟩ : ∃ r, f.l[k] = r := ⟨_, rfl⟩
          have hsp : f.l = f.l.take k ++ (a, s) :: f.l.drop (k + 1) := by rw [← has]; simp
          have hlt : (flatR (f.l.take k)).length = k * 2 := by rw [flatR_len, List.length_take, Nat.min_eq_left (Nat.le_of_lt hkl)]
          have x0 := (own_cells hrun (j := k * 2) (x := .int .i64 (a : Int)) (by rw [hsp, flatR_app, List.getElem?_append_right (by rw [hlt]; omega), hlt, Nat.sub_self]; rfl)).1
          have x1 := (own_cells hrun (j := k * 2 + 1) (x := .int .i64 (s : Int)) (by rw [hsp, flatR_app, List.getElem?_append_right (by rw [hlt]; omega), hlt, show k * 2 + 1 - k * 2 = 1 by omega]; rfl)).1
          have htk : (pcsF f).take (k + 1) = (pcsF f).take k ++ [(f.b, a, s)] := by
            exact pcs_take hkl has
          have HTk := hid htk
          have HWr := hid hW
          have hpl : (ps ++ (pcsF f).take k).length ≤ 1000000 := by
            have := HLen.out
            rw [List.length_append, List.length_take]
            unfold pcsF
            rw [List.length_map, HNF.out]
            have : min k nf ≤ nf := Nat.min_le_right _ _
            have := HNF.out
            omega
          have hcn2 := hid hcn
          clear hkl hW hF e hrun has hsp hlt htk hcn HI
          go_wp2_with (at_builtin; refine wpList_append_pc rfl (.tmp 26) (.tmp 30) rfl _ w.heap.size (.slice A2 n2 c2) _ rfl (World.ownsRow.alloc (World.ownsRow.alloc HWr.out.pr _) _) _ _ (f.b, a, s) rfl (cell_three _ (f.b, a, s) _ _ (by simp)) hpl (by have := HWr.out.sz; simp; omega) ?_; intro v2 w2 hr2 hg2 hl2; obtain ⟨A3, c3, e3⟩ := prow_form hr2; obtain ⟨n3, hn3⟩ : ∃ n, (ps ++ (pcsF f).take k ++ [(f.b, a, s)]).length = n := ⟨_, rfl⟩; rw [hn3] at e3; subst e3; have HR2 := hid hr2; have HG2 := hid hg2; clear hr2 hg2 hl2 hn3)
          go_roundw
          case rel =>
            refine ⟨k + 1, _, _, _, rfl, by go_num, by omega, cn, ⟨HWr.out.rg.chg HLT.out HMB.out ?_, by rw [HTk.out, ← List.append_assoc]; exact HR2.out, ?_⟩, hcn2.out⟩
            · refine ((Chg.of_below (fun k => w.heap.size ≤ k ∧ k ≠ w.heap.size) (below_new _ _)).trans (Chg.of_below (fun k => w.heap.size ≤ k ∧ k ≠ w.heap.size) (below_new _ _)) fun k q => .inl q).trans (Chg.of_grown (S := fun k => w.heap.size ≤ k ∧ k ≠ w.heap.size) HG2.out fun k q => .inl ?_) fun k q => .inl q
              exact prow_ne HWr.out.rg HWr.out.pr q
            · have h1 := HG2.out.size
              have h2 := HWr.out.sz
              simp at h1
              omega
          case measure => simp [intOf]; omega
        · obtain rfl : k = nf := by omega
          go_wp2
          go_roundw
          case rel =>
            obtain ⟨cn, hW, hcn⟩ := HI.out
            rw [List.take_of_length_le (by unfold pcsF; rw [List.length_map, HNF.out]; exact Nat.le_refl _)] at hW
            exact ⟨fun z => left z && !z.sameKey kl, cn, n2, c2, A2, ps ++ pcsF f, rfl, HPM.out, hW⟩
          case measure =>
            obtain ⟨cn, hW, hcn⟩ := HI.out
            have e1 := HW1.out.rg.rg.left_eq
            have e2 := hW.rg.rg.left_eq
            have := HLTm.out
            rw [e2, hcn, ← e1]
            exact this
end Go.Proofs.YtofkfafdodhmdaaGreatDoor

/- What (*store.Disk).Crash comes to: mathematics of what lasts, and of files that go. Conditions: none. -/
namespace Go.Proofs.YtofkfafdodhmdaaGreatDoor
open Go.RowKit

/-- How many bytes of a run last. -/
def kp (K : Int) (s : Nat) : Nat := (max 0 (min K (s : Int))).toNat
theorem kp_le (K : Int) (s : Nat) : kp K s ≤ s := by unfold kp; omega
theorem kp_eq (K : Int) (s : Nat) : max 0 (min K (s : Int)) = (kp K s : Int) := by unfold kp; omega
/-- What is left to be kept behind some runs. -/
def kpl : List Pc → Int → Int
  | [], K => K
  | p :: t, K => kpl t (K - (kp K p.2.2 : Int))
/-- How many bytes of a file last behind some runs. -/
def incP : List Pc → Int → Nat → Nat
  | [], _, _ => 0
  | p :: t, K, b => (if p.1 = b then kp K p.2.2 else 0) + incP t (K - (kp K p.2.2 : Int)) b
theorem kpl_snoc (l : List Pc) (p : Pc) : ∀ K, kpl (l ++ [p]) K = kpl l K - (kp (kpl l K) p.2.2 : Int) := by
  induction l with
  | nil => intro K; rfl
  | cons a t ih => intro K; exact ih _
theorem inc_snoc (l : List Pc) (p : Pc) (b : Nat) : ∀ K, incP (l ++ [p]) K b = incP l K b + if p.1 = b then kp (kpl l K) p.2.2 else 0 := by
  induction l with
  | nil => intro K; show (if p.1 = b then kp K p.2.2 else 0) + 0 = 0 + _; rw [Nat.zero_add, Nat.add_zero]; rfl
  | cons a t ih =>
    intro K
    show (if a.1 = b then kp K a.2.2 else 0) + incP (t ++ [p]) _ b = (if a.1 = b then kp K a.2.2 else 0) + incP t _ b + _
    rw [ih, Nat.add_assoc]
    rfl
/-- The bytes of a file's pieces. -/
def sumP (l : List Pc) (b : Nat) : Nat := ((l.filter fun p => decide (p.1 = b)).map fun p => p.2.2).sum
theorem inc_le (l : List Pc) (b : Nat) : ∀ K, incP l K b ≤ sumP l b := by
  unfold sumP
  induction l with
  | nil => intro K; exact Nat.le_refl _
  | cons a t ih =>
    intro K
    show (if a.1 = b then kp K a.2.2 else 0) + incP t _ b ≤ _
    have h := ih (K - (kp K a.2.2 : Int))
    have hk := kp_le K a.2.2
    rw [List.filter_cons]
    by_cases q : a.1 = b
    · rw [if_pos q, if_pos (decide_eq_true q), List.map_cons, List.sum_cons]; omega
    · rw [if_neg q, if_neg (by rw [decide_eq_false q]; decide)]; omega
theorem sum_perm {l m : List Pc} (h : l.Perm m) (b : Nat) : sumP l b = sumP m b := ((h.filter _).map _).sum_nat
theorem kpl_range (l : List Pc) : ∀ K : Int, -9223372036854775808 ≤ K → K < 9223372036854775808 → -9223372036854775808 ≤ kpl l K ∧ kpl l K < 9223372036854775808 := by
  induction l with
  | nil => intro K h1 h2; exact ⟨h1, h2⟩
  | cons a t ih =>
    intro K h1 h2
    refine ih _ ?_ ?_ <;> unfold kp <;> omega
/-- The file with more that lasts. -/
def mF (l : List Pc) (K : Int) (f : Fl) : Fl := { f with m := f.m + incP l K f.b }
theorem mF_nil (K : Int) (f : Fl) : mF [] K f = f := rfl
theorem mF_has (l : List Pc) (K : Int) (f : Fl) (k : Nat) : (mF l K f).has k ↔ f.has k := Iff.rfl
theorem sum_all {fs : List Fl} (hd : fs.Pairwise Fl.apart) {f : Fl} (hf : f ∈ fs) : sumP (allP fs) f.b = sumR f.l := by
  obtain ⟨A, C, rfl⟩ := List.append_of_mem hf
  have hap := (ap_mid.1 hd).2
  have zero : ∀ l : List Fl, (∀ g ∈ l, g.b ≠ f.b) → (allP l).filter (fun p => decide (p.1 = f.b)) = [] := fun l hl => by
    rw [List.filter_eq_nil_iff]
    intro p hp
    obtain ⟨g, hg, hp⟩ := List.mem_flatMap.1 hp
    obtain ⟨r, _, rfl⟩ := List.mem_map.1 hp
    rw [decide_eq_true_iff]
    exact hl g hg
  have nb : ∀ g ∈ A ++ C, g.b ≠ f.b := fun g hg e => hap g hg f.b (.inl rfl) (.inl e.symm)
  unfold sumP
  have e : allP (A ++ f :: C) = allP A ++ (pcsF f ++ allP C) := by unfold allP; rw [List.flatMap_append, List.flatMap_cons]
  rw [e, List.filter_append, List.filter_append, zero A fun g hg => nb g (List.mem_append_left _ hg), zero C fun g hg => nb g (List.mem_append_right _ hg), List.nil_append, List.append_nil]
  have e2 : (pcsF f).filter (fun p => decide (p.1 = f.b)) = pcsF f := by
    rw [List.filter_eq_self]
    intro p hp
    obtain ⟨r, _, rfl⟩ := List.mem_map.1 hp
    exact decide_eq_true rfl
  rw [e2]
  unfold pcsF sumR
  rw [List.map_map]
  rfl
theorem mF_step {A C : List Fl} {f : Fl} (hd : (A ++ f :: C).Pairwise Fl.apart) (l : List Pc) (K : Int) (p : Pc) (hp : p.1 = f.b) :
    (A ++ f :: C).map (mF (l ++ [p]) K) = A.map (mF l K) ++ { mF l K f with m := (mF l K f).m + kp (kpl l K) p.2.2 } :: C.map (mF l K) := by
  have hap := (ap_mid.1 hd).2
  have nb : ∀ g ∈ A ++ C, mF (l ++ [p]) K g = mF l K g := fun g hg => by
    have hne : p.1 ≠ g.b := fun e => hap g hg f.b (.inl rfl) (.inl (hp ▸ e))
    unfold mF
    rw [inc_snoc, if_neg hne, Nat.add_zero]
  rw [List.map_append, List.map_cons, List.map_congr_left fun g hg => nb g (List.mem_append_left _ hg), List.map_congr_left fun g hg => nb g (List.mem_append_right _ hg)]
  congr 2
  unfold mF
  rw [inc_snoc, if_pos hp, Nat.add_assoc]
theorem pc_mem {fs : List Fl} {p : Pc} (h : p ∈ allP fs) : ∃ A f C, fs = A ++ f :: C ∧ p.1 = f.b := by
  obtain ⟨f, hf, hp⟩ := List.mem_flatMap.1 h
  obtain ⟨r, _, rfl⟩ := List.mem_map.1 hp
  obtain ⟨A, C, e⟩ := List.append_of_mem hf
  exact ⟨A, f, C, e, rfl⟩

/-! ### the files that go -/
def keepB (f : Fl) : Bool := !(decide (f.m = 0) && !f.h)
def kpF (left : Lit → Bool) (fs : List Fl) : List Fl := fs.filter fun f => left f.key || keepB f
theorem kp_rise {fs : List Fl} (h : Ris fs) (left : Lit → Bool) : Ris (kpF left fs) := h.filter _
theorem kp_start (fs : List Fl) : kpF (Maps.has (mapD fs)) fs = fs := by
  unfold kpF
  rw [List.filter_eq_self]
  intro f hf
  have : Maps.has (mapD fs) f.key = true := (has_iff fs f.n).2 ⟨f, hf, rfl⟩
  rw [this]
  rfl
theorem kp_end {left : Lit → Bool} (h : ∀ kl, left kl = false) (fs : List Fl) : kpF left fs = fs.filter keepB := by
  unfold kpF
  refine List.filter_congr fun f _ => ?_
  rw [h]
  rfl
theorem kp_stay {left : Lit → Bool} {fs : List Fl} {f : Fl} (hf : f ∈ fs) (hr : Ris fs) (hk : keepB f = true) : kpF (fun z => left z && !z.sameKey f.key) fs = kpF left fs := by
  obtain ⟨A, C, rfl⟩ := List.append_of_mem hf
  obtain ⟨h1, h2, _⟩ := rise_mid hr
  unfold kpF
  refine List.filter_congr fun g hg => ?_
  show ((left g.key && !g.key.sameKey f.key) || keepB g) = _
  by_cases e : g.n = f.n
  · have : g = f := by
      rcases List.mem_append.1 hg with q | q
      · exact absurd e (bef_ne (h1 g q))
      · rcases List.mem_cons.1 q with q | q
        · exact q
        · exact absurd e.symm (bef_ne (h2 g q))
    rw [this, hk, Bool.or_true, Bool.or_true]
  · rw [key_ne e]
    simp
theorem kp_go {left : Lit → Bool} {fs A C : List Fl} {f : Fl} (hr : Ris fs) (e : kpF left fs = A ++ f :: C) (hk : keepB f = false) : kpF (fun z => left z && !z.sameKey f.key) fs = A ++ C := by
  have e1 : kpF (fun z => left z && !z.sameKey f.key) fs = (kpF left fs).filter (fun g => (left g.key && !g.key.sameKey f.key) || keepB g) := by
    unfold kpF
    rw [List.filter_filter]
    refine List.filter_congr fun g _ => ?_
    show ((left g.key && !g.key.sameKey f.key) || keepB g) = (((left g.key && !g.key.sameKey f.key) || keepB g) && (left g.key || keepB g))
    cases left g.key <;> cases keepB g <;> cases g.key.sameKey f.key <;> rfl
  have hr2 := kp_rise hr left
  have hmem : ∀ g ∈ A ++ f :: C, (left g.key || keepB g) = true := fun g hg => by
    rw [← e] at hg
    exact (List.mem_filter.1 hg).2
  rw [e] at hr2
  obtain ⟨h1, h2, _⟩ := rise_mid hr2
  have same : ∀ l : List Fl, (∀ g ∈ l, g.n ≠ f.n ∧ g ∈ A ++ f :: C) → l.filter (fun g => (left g.key && !g.key.sameKey f.key) || keepB g) = l := fun l hl => by
    rw [List.filter_eq_self]
    intro g hg
    obtain ⟨a1, a2⟩ := hl g hg
    rw [key_ne a1, Bool.not_false, Bool.and_true]
    exact hmem g a2
  have sf : f.key.sameKey f.key = true := by
    show (Lit.string f.n.data.toList).sameKey (.string f.n.data.toList) = true
    rw [sameKey_str, decide_eq_true rfl]
  rw [e1, e, List.filter_append, List.filter_cons, if_neg (by rw [sf, hk]; simp), same A fun g hg => ⟨bef_ne (h1 g hg), List.mem_append_left _ hg⟩, same C fun g hg => ⟨fun e => bef_ne (h2 g hg) e.symm, List.mem_append_right _ (List.mem_cons_of_mem _ hg)⟩]

/-- The slice of what lasts. -/
def cutS (f : Fl) : Value := match f.dv with
  | .slice A _ c => .slice A f.m c
  | x => x
def cutF (f : Fl) : Fl := { f with dv := cutS f, d := f.d.take f.m, lv := .slice none 0 0, l := [] }
theorem cut_has {f : Fl} {k : Nat} (h : (cutF f).has k) : f.has k := by
  rcases h with h | h | h
  · exact .inl h
  · refine .inr (.inl ?_)
    have h2 : (cutS f).ownBlock = some k := h
    unfold cutS at h2
    cases e : f.dv <;> rw [e] at h2 <;> first | exact h2 | (rename_i A n c; cases A <;> exact h2)
  · cases h
theorem cut_row {w : World} {B : Nat} {f : Fl} (h : Row w B f.dv f.d) (hm : f.m ≤ f.d.length) : Row w B (cutS f) (f.d.take f.m) := by
  obtain ⟨h1, h2⟩ := h
  have hl : (f.d.take f.m).length = f.m := by rw [List.length_take]; omega
  rcases h2 with ⟨e, e2⟩ | ⟨g, cap, cur, e, hB, hh, hn, hc, hs, ht⟩
  · have hm0 : f.m = 0 := by omega
    refine ⟨by rw [bc_len]; omega, .inl ⟨?_, by rw [hl]; exact hm0⟩⟩
    unfold cutS
    rw [e, hm0]
  · refine ⟨by rw [bc_len]; omega, .inr ⟨g, cap, cur, ?_, hB, hh, by omega, hc, hs, ?_⟩⟩
    · unfold cutS
      rw [e, hl]
    · rw [hl, Nat.mul_one]
      rw [Nat.mul_one] at ht
      have : bc (f.d.take f.m) = (bc f.d).take f.m := by unfold bc; rw [List.map_take]
      rw [this, ← ht, List.take_take, Nat.min_eq_left hm]
theorem flat_cut {w : World} {B : Nat} {f : Fl} (h : FlAt w B f) (hm : f.m ≤ f.d.length) : FlAt ((w.setCell ⟨f.b, 0, none⟩ (cutS f)).setCell ⟨f.b, 2, none⟩ (.slice none 0 0)) B (cutF f) ∧ (∀ k, k ≠ f.b → ((w.setCell ⟨f.b, 0, none⟩ (cutS f)).setCell ⟨f.b, 2, none⟩ (.slice none 0 0)).heap[k]? = w.heap[k]?) ∧ Chg (fun k => k = f.b) w ((w.setCell ⟨f.b, 0, none⟩ (cutS f)).setCell ⟨f.b, 2, none⟩ (.slice none 0 0)) := by
  have k1 := (h.blk.set 0 (cutS f)).set 2 (.slice none 0 0)
  have hk : ∀ k, k ≠ f.b → ((w.setCell ⟨f.b, 0, none⟩ (cutS f)).setCell ⟨f.b, 2, none⟩ (.slice none 0 0)).heap[k]? = w.heap[k]? := fun k q => by
    rw [Below.heap_setCell _ _ _ _ q, Below.heap_setCell _ _ _ _ q]
  refine ⟨⟨h.lo, k1, own_block0 (cut_row h.row hm) fun g q => hk g ?_, ⟨rfl, .inl ⟨rfl, rfl⟩⟩⟩, hk, (Chg.of_set w f.b 0 _ (S := fun k => k = f.b) rfl).trans (Chg.of_set _ f.b 2 _ (S := fun k => k = f.b) rfl) fun k q => .inl q⟩
  obtain ⟨cur, hc⟩ := own_blk (cut_row h.row hm) q
  exact blk_ne0 hc h.blk (by decide)
theorem map_ent {fs : List Fl} (F : Fl → Fl) (h : ∀ f ∈ fs, (F f).n = f.n ∧ (F f).b = f.b) : mapD (fs.map F) = mapD fs := by
  unfold mapD
  rw [List.map_map]
  congr 1
  refine List.map_congr_left fun f hf => ?_
  obtain ⟨e1, e2⟩ := h f hf
  show (F f).ent = f.ent
  unfold Fl.ent Fl.key
  rw [e1, e2]
end Go.Proofs.YtofkfafdodhmdaaGreatDoor
