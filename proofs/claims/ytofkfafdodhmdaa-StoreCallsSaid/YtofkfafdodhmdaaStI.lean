/- (*store.Disk).total over its two questions, Loose. Conditions: the disk stands. -/
import Derived.Test.YtofkfafdodhmdaaStH
namespace Go.Proofs.Ytofkfafdodhmdaa
open Go.RowKit

/-- The files that have been gone through. -/
def doneF (left : Lit → Bool) (fs : List Fl) : List Fl := fs.filter fun f => !left f.key
theorem next_file {fs : List Fl} (hr : Ris fs) {x : List UInt8} {c : Option Nat} {kl : Lit} {y : DataW Unit × List MemPlace} (hkey : keyOf Try.prog 9 (Go.Proofs.encStr x) = some kl) (hy : Rp (ptrB c) = some y) (hat : ∀ zd, (mapD fs).atKey kl zd = y.1) :
    ∃ A f C, fs = A ++ f :: C ∧ f.n = ⟨x.toArray⟩ ∧ kl = f.key ∧ c = some f.b := by
  obtain ⟨x', e1, rfl, _⟩ := Maps.keyOf_str Try.underlying9 hkey
  have e1 := encStr_inj e1
  subst e1
  have ex : (⟨x.toArray⟩ : ByteArray).data.toList = x := rfl
  rcases part ⟨x.toArray⟩ hr with ⟨A, f, C, rfl, e⟩ | ⟨A, C, rfl, hA, hC⟩
  · refine ⟨A, f, C, rfl, e, ?_, ?_⟩
    · unfold Fl.key; rw [e]
    · have h1 := hat .nil
      have e5 : f.n.data.toList = x := by rw [e]
      rw [← e5, at_some hr] at h1
      obtain ⟨y1, y2⟩ := y
      have h1 : DataW.lit (Lit.int IntKind.i64 (f.b : Int)) = y1 := h1
      subst h1
      have := Rp_int hy
      cases c with
      | none => cases this
      | some c =>
        have : Value.pointer (some ⟨c, 0, none⟩) = .pointer (some ⟨f.b, 0, none⟩) := this
        exact congrArg some (congrArg Addr.block (Option.some.inj (Value.pointer.inj this)))
  · have h1 := hat .nil
    have h2 := hat (.agg [])
    have e0 := fun z => at_none (not_in hA hC) z
    have e1 := e0 .nil
    have e2 := e0 (.agg [])
    rw [ex] at e1 e2
    rw [e1] at h1
    rw [e2] at h2
    have h3 := h1.trans h2.symm
    cases h3
theorem done_start (fs : List Fl) : doneF (Maps.has (mapD fs)) fs = [] := by
  unfold doneF
  rw [List.filter_eq_nil_iff]
  intro f hf
  have : Maps.has (mapD fs) f.key = true := (has_iff fs f.n).2 ⟨f, hf, rfl⟩
  rw [this]
  decide
theorem done_end {left : Lit → Bool} (h : ∀ kl, left kl = false) (fs : List Fl) : doneF left fs = fs := List.filter_eq_self.2 fun f _ => by rw [h]; rfl
theorem key_ne {f g : Fl} (h : f.n ≠ g.n) : f.key.sameKey g.key = false := by
  show (Lit.string f.n.data.toList).sameKey (.string g.n.data.toList) = false
  rw [sameKey_str, decide_eq_false h]
theorem done_step {A C : List Fl} {f : Fl} (hr : Ris (A ++ f :: C)) {left : Lit → Bool} (hl : left f.key = true) : doneF (fun z => left z && !z.sameKey f.key) (A ++ f :: C) = doneF left A ++ f :: doneF left C ∧ doneF left (A ++ f :: C) = doneF left A ++ doneF left C := by
  obtain ⟨h1, h2, _⟩ := rise_mid hr
  have same : ∀ l : List Fl, (∀ g ∈ l, g.n ≠ f.n) → doneF (fun z => left z && !z.sameKey f.key) l = doneF left l := fun l hl => by
    unfold doneF
    refine List.filter_congr fun g hg => ?_
    show (!(left g.key && !g.key.sameKey f.key)) = _
    rw [key_ne (hl g hg)]
    simp
  have sf : f.key.sameKey f.key = true := by
    show (Lit.string f.n.data.toList).sameKey (.string f.n.data.toList) = true
    rw [sameKey_str, decide_eq_true rfl]
  refine ⟨?_, ?_⟩
  · have e := same A fun g hg => bef_ne (h1 g hg)
    have e' := same C fun g hg e => bef_ne (h2 g hg) e.symm
    unfold doneF at *
    rw [List.filter_append, e, List.filter_cons, if_pos (by show (!(left f.key && !f.key.sameKey f.key)) = true; rw [sf]; simp), e']
  · unfold doneF
    rw [List.filter_append, List.filter_cons, if_neg (by rw [hl]; decide)]
def sumQ (q : Fl → Nat) (fs : List Fl) : Nat := (fs.map q).sum
theorem sumQ_step {A C : List Fl} {f : Fl} (hr : Ris (A ++ f :: C)) {left : Lit → Bool} (hl : left f.key = true) (q : Fl → Nat) : sumQ q (doneF (fun z => left z && !z.sameKey f.key) (A ++ f :: C)) = sumQ q (doneF left (A ++ f :: C)) + q f := by
  obtain ⟨e1, e2⟩ := done_step hr hl
  rw [e1, e2]
  unfold sumQ
  simp
  omega
theorem sumQ_le (q : Fl → Nat) (left : Lit → Bool) (fs : List Fl) : sumQ q (doneF left fs) ≤ sumQ q fs := by
  unfold doneF sumQ
  induction fs with
  | nil => exact Nat.le_refl _
  | cons a t ih =>
    rw [List.filter_cons]
    split
    · simp only [List.map_cons, List.sum_cons]; omega
    · simp only [List.map_cons, List.sum_cons]; omega

set_option maxHeartbeats 1000000 in
theorem ask_size {B : Nat} {f : Fl} {w : World} (h : FlAt w B f) : Calls Try.prog 44 #[.pointer (some ⟨f.b, 0, none⟩)] w fun e w' => e = .returned (.int .i64 (f.d.length : Int)) ∧ Below w.heap.size w w' := by
  obtain ⟨A1, q1, e1, _, _, _, _⟩ := h.row.sla
  have m0 : w.cell? ⟨f.b, 0, none⟩ = some (.slice A1 f.d.length q1) := by rw [← e1]; exact h.blk.cell 0
  clear h e1
  go_enter Try.func44, Try.ntmps44
  go_wp2
  go_ret
  exact ⟨rfl, Below.refl _ _⟩

set_option maxHeartbeats 1000000 in
theorem ask_loose {B : Nat} {f : Fl} {w : World} (h : FlAt w B f) (hm : f.m ≤ f.d.length) (hd : f.d.length ≤ 1000000000) : Calls Try.prog 41 #[.pointer (some ⟨f.b, 0, none⟩)] w fun e w' => e = .returned (.int .i64 ((f.d.length - f.m : Nat) : Int)) ∧ Below w.heap.size w w' := by
  obtain ⟨A1, q1, e1, _, _, _, _⟩ := h.row.sla
  have m0 : w.cell? ⟨f.b, 0, none⟩ = some (.slice A1 f.d.length q1) := by rw [← e1]; exact h.blk.cell 0
  have m1 : w.cell? ⟨f.b, 1, none⟩ = some (.int .i64 (f.m : Int)) := h.blk.cell 1
  have hw : IntKind.i64.wrap ((f.d.length : Int) - (f.m : Int)) = ((f.d.length - f.m : Nat) : Int) := by rw [IntKind.wrap_i64]; omega
  clear h e1
  go_enter Try.func41, Try.ntmps41
  go_wp2
  go_region
  all_goals
    go_wp2
    go_ret
    exact ⟨ret_val (int_val (by first | exact hw | rfl)), by repeat (first | exact Below.refl _ _ | refine Below.drew ?_)⟩

/-- Where a range over the files is. -/
structure RgS (w wr : World) (B mb r : Nat) (fs : List Fl) (left : Lit → Bool) (cnt : Nat) : Prop where
  rg : wr.ranges Try.prog 9 Rp mb r fs.length (mapD fs) left cnt
  b : Below w.heap.size w wr
  fl : ∀ f ∈ fs, FlAt wr B f
theorem RgS.below {w wr w' : World} {B mb r : Nat} {fs : List Fl} {left : Lit → Bool} {cnt : Nat} (h : RgS w wr B mb r fs left cnt) (hb : Below wr.heap.size wr w') : RgS w w' B mb r fs left cnt := by
  refine ⟨?_, h.b.trans (hb.mono h.b.size), fun f hf => (h.fl f hf).keep fun k q => hb.block k ((h.fl f hf).lt q).2⟩
  obtain ⟨es, clock, since, seen, c0, hb1, F, hs, hD, hr1, rest⟩ := h.rg
  exact ⟨es, clock, since, seen, c0, (hb.block mb h.rg.owns.lt).trans hb1, F, hs, hD, (hb.block r h.rg.lt).trans hr1, rest⟩
theorem RgS.step {w wr w1 : World} {B mb r : Nat} {fs : List Fl} {left left' : Lit → Bool} {cnt cnt' : Nat} (h : RgS w wr B mb r fs left cnt) (hr : w.heap.size ≤ r) (hrg : w1.ranges Try.prog 9 Rp mb r fs.length (mapD fs) left' cnt') (hg : wr.grownBy w1 (some r)) : RgS w w1 B mb r fs left' cnt' := by
  refine ⟨hrg, h.b.grown hg h.b.size (fun k e => by cases e; exact hr), fun f hf => (h.fl f hf).keep fun k q => hg.block k ((h.fl f hf).lt q).2 fun e => ?_⟩
  have e : k = r := Option.some.inj e
  subst e
  have hk := (h.fl f hf)
  obtain ⟨es, clock, since, seen, c0, _, _, _, _, hr1, _⟩ := h.rg
  rcases q with q | q | q
  · have := hk.blk; unfold Blk at this; rw [← q, hr1] at this; cases this
  · obtain ⟨cur, hc⟩ := own_blk hk.row q; unfold Blk at hc; rw [hr1] at hc; cases hc
  · obtain ⟨cur, hc⟩ := own_blk hk.run q; unfold Blk at hc; rw [hr1] at hc; cases hc

set_option maxRecDepth 100000 in
set_option maxHeartbeats 4000000 in
theorem total_size {B db mb : Nat} {fs : List Fl} {z s u : Int} {w : World} (h : Dk w B db mb fs z s u) (hq : sumQ (fun f => f.d.length) fs ≤ 1000000000)  :
    Calls Try.prog 40 #[.pointer (some ⟨db, 0, none⟩), .func (.func 44) #[] #[]] w fun e w' => e = .returned (.int .i64 ((sumQ (fun f => f.d.length) fs : Nat) : Int)) ∧ Below w.heap.size w w' := by
  have m0 : w.cell? ⟨db, 0, none⟩ = some (.map (some mb)) := h.blk.cell 0
  have HD := hid h
  have HQ := hid hq
  have HA : Hid (∀ f ∈ fs, ∀ W, FlAt W B f → Calls Try.prog 44 #[.pointer (some ⟨f.b, 0, none⟩)] W fun e w' => e = .returned (.int .i64 ((f.d.length : Nat) : Int)) ∧ Below W.heap.size W w') := fun f hf W hW => ask_size hW
  clear h hq
  go_enter Try.func40, Try.ntmps40
  go_wp2_with (first | (at_range; refine wpList_range_own _ rfl _ 57 rfl 9 72 strK Try.underlying57 Rp mb _ _ rfl HD.out.map ?_; intro w0 hrg0 hg0 hs0) | go_in)
  go_frame
  have hst : RgS w w0 B mb w.heap.size fs (Maps.has (mapD fs)) (Maps.size (mapD fs)) := ⟨hrg0, (Below.refl _ _).grown hg0 (Nat.le_refl _) (fun k e => by cases e), fun f hf => (HD.out.fl f hf).keep fun k q => hg0.block k (HD.out.lts hf q) (by simp)⟩
  have HST := hid hst
  clear hrg0 hg0 hs0 hst m0
  go_loopw [5] (fun vn wr => ∃ (left : Lit → Bool) (cnt : Nat), vn = .int .i64 ((sumQ (fun f => f.d.length) (doneF left fs) : Nat) : Int) ∧ Hid (RgS w wr B mb w.heap.size fs left cnt)) (fun _ wr => wr.rangeLeft mb w.heap.size)
  case atStart => exact ⟨_, _, by rw [done_start]; rfl, HST⟩
  case round =>
    obtain ⟨left, cnt, rfl, HR⟩ := hrel
    go_wp2_with (at_next; refine wpList_next_ranges _ rfl _ rfl 9 strK Rp Go.Proofs.encStr ptrB (fun key kl hk => by obtain ⟨x, hx, _⟩ := Maps.keyOf_str Try.underlying9 hk; exact ⟨x, hx⟩) (fun v y hv => Rp_inv hv) mb w.heap.size fs.length (mapD fs) left cnt rfl HR.out.rg ?_ ?_)
    · intro hc0 hl0
      go_wp2
      go_ret
      rw [done_end hl0]
      exact ⟨rfl, HR.out.b⟩
    · intro x c kl y1 y2 w1 cnt1 hkey hlk hv hat hrg1 hlt hg1 hs1 hen
      obtain ⟨A, f, C, e1, e2, e3, e4⟩ := next_file (y := (y1, y2)) HD.out.ri hkey hv hat
      subst e4
      have hen : (Instr.entry (.pointer (some ⟨w.heap.size, 0, none⟩))).run Try.prog w1 = .ok (.tuple #[Go.Proofs.encStr x, .pointer (some ⟨f.b, 0, none⟩)]) w1 := hen
      have HR1 := hid (HR.out.step (Nat.le_refl _) hrg1 hg1)
      have hfin : f ∈ fs := by rw [e1]; simp
      have HC := hid (HA.out f hfin w1 (HR1.out.fl f hfin))
      have hri := HD.out.ri
      rw [e1] at hri
      rw [e3] at hlk
      have hsum := sumQ_step hri hlk (fun f => f.d.length)
      rw [← e1, ← e3] at hsum
      have hle := sumQ_le (fun f => f.d.length) (fun z => left z && !z.sameKey kl) fs
      have hqq := HQ.out
      obtain ⟨N, hN⟩ : ∃ N, sumQ (fun f => f.d.length) (doneF left fs) = N := ⟨_, rfl⟩
      obtain ⟨M, hM⟩ : ∃ M, f.d.length = M := ⟨_, rfl⟩
      rw [hM] at HC
      have hsum2 : sumQ (fun f => f.d.length) (doneF (fun z => left z && !z.sameKey kl) fs) = N + M := by rw [hsum, hN, hM]
      rw [hN]
      have hw : IntKind.i64.wrap ((N : Int) + (M : Int)) = ((N + M : Nat) : Int) := by rw [IntKind.wrap_i64]; omega
      have HS := hid hsum2
      have HLT := hid (show w1.rangeLeft mb w.heap.size < wr.rangeLeft mb w.heap.size by rw [hrg1.left_eq, HR.out.rg.left_eq]; exact hlt)
      clear hkey hlk hv hat hrg1 hlt hg1 hs1 e1 e2 e3 hfin hri hsum hsum2 hle hqq hN hM
      go_wp2_with (go_at_call 44; refine HC.out.mono ?_; rintro e w2 ⟨rfl, hb2⟩)
      go_roundw
      case rel => exact ⟨fun z => left z && !z.sameKey kl, cnt1, by rw [HS.out]; first | rfl | simp, HR1.out.below hb2⟩
      case measure =>
        have e1 := HR1.out.rg.left_eq
        have e2 := (HR1.out.below hb2).rg.left_eq
        have := HLT.out
        rw [e2, ← e1]
        exact this

set_option maxRecDepth 100000 in
set_option maxHeartbeats 4000000 in
theorem total_loose {B db mb : Nat} {fs : List Fl} {z s u : Int} {w : World} (h : Dk w B db mb fs z s u) (hq : sumQ (fun f => f.d.length - f.m) fs ≤ 1000000000) (hx : ∀ f ∈ fs, f.m ≤ f.d.length ∧ f.d.length ≤ 1000000000) :
    Calls Try.prog 40 #[.pointer (some ⟨db, 0, none⟩), .func (.func 41) #[] #[]] w fun e w' => e = .returned (.int .i64 ((sumQ (fun f => f.d.length - f.m) fs : Nat) : Int)) ∧ Below w.heap.size w w' := by
  have m0 : w.cell? ⟨db, 0, none⟩ = some (.map (some mb)) := h.blk.cell 0
  have HD := hid h
  have HQ := hid hq
  have HA : Hid (∀ f ∈ fs, ∀ W, FlAt W B f → Calls Try.prog 41 #[.pointer (some ⟨f.b, 0, none⟩)] W fun e w' => e = .returned (.int .i64 ((f.d.length - f.m : Nat) : Int)) ∧ Below W.heap.size W w') := fun f hf W hW => ask_loose hW (hx f hf).1 (hx f hf).2
  clear h hq
  go_enter Try.func40, Try.ntmps40
  go_wp2_with (first | (at_range; refine wpList_range_own _ rfl _ 57 rfl 9 72 strK Try.underlying57 Rp mb _ _ rfl HD.out.map ?_; intro w0 hrg0 hg0 hs0) | go_in)
  go_frame
  have hst : RgS w w0 B mb w.heap.size fs (Maps.has (mapD fs)) (Maps.size (mapD fs)) := ⟨hrg0, (Below.refl _ _).grown hg0 (Nat.le_refl _) (fun k e => by cases e), fun f hf => (HD.out.fl f hf).keep fun k q => hg0.block k (HD.out.lts hf q) (by simp)⟩
  have HST := hid hst
  clear hrg0 hg0 hs0 hst m0
  go_loopw [5] (fun vn wr => ∃ (left : Lit → Bool) (cnt : Nat), vn = .int .i64 ((sumQ (fun f => f.d.length - f.m) (doneF left fs) : Nat) : Int) ∧ Hid (RgS w wr B mb w.heap.size fs left cnt)) (fun _ wr => wr.rangeLeft mb w.heap.size)
  case atStart => exact ⟨_, _, by rw [done_start]; rfl, HST⟩
  case round =>
    obtain ⟨left, cnt, rfl, HR⟩ := hrel
    go_wp2_with (at_next; refine wpList_next_ranges _ rfl _ rfl 9 strK Rp Go.Proofs.encStr ptrB (fun key kl hk => by obtain ⟨x, hx, _⟩ := Maps.keyOf_str Try.underlying9 hk; exact ⟨x, hx⟩) (fun v y hv => Rp_inv hv) mb w.heap.size fs.length (mapD fs) left cnt rfl HR.out.rg ?_ ?_)
    · intro hc0 hl0
      go_wp2
      go_ret
      rw [done_end hl0]
      exact ⟨rfl, HR.out.b⟩
    · intro x c kl y1 y2 w1 cnt1 hkey hlk hv hat hrg1 hlt hg1 hs1 hen
      obtain ⟨A, f, C, e1, e2, e3, e4⟩ := next_file (y := (y1, y2)) HD.out.ri hkey hv hat
      subst e4
      have hen : (Instr.entry (.pointer (some ⟨w.heap.size, 0, none⟩))).run Try.prog w1 = .ok (.tuple #[Go.Proofs.encStr x, .pointer (some ⟨f.b, 0, none⟩)]) w1 := hen
      have HR1 := hid (HR.out.step (Nat.le_refl _) hrg1 hg1)
      have hfin : f ∈ fs := by rw [e1]; simp
      have HC := hid (HA.out f hfin w1 (HR1.out.fl f hfin))
      have hri := HD.out.ri
      rw [e1] at hri
      rw [e3] at hlk
      have hsum := sumQ_step hri hlk (fun f => f.d.length - f.m)
      rw [← e1, ← e3] at hsum
      have hle := sumQ_le (fun f => f.d.length - f.m) (fun z => left z && !z.sameKey kl) fs
      have hqq := HQ.out
      obtain ⟨N, hN⟩ : ∃ N, sumQ (fun f => f.d.length - f.m) (doneF left fs) = N := ⟨_, rfl⟩
      obtain ⟨M, hM⟩ : ∃ M, f.d.length - f.m = M := ⟨_, rfl⟩
      rw [hM] at HC
      have hsum2 : sumQ (fun f => f.d.length - f.m) (doneF (fun z => left z && !z.sameKey kl) fs) = N + M := by rw [hsum, hN, hM]
      rw [hN]
      have hw : IntKind.i64.wrap ((N : Int) + (M : Int)) = ((N + M : Nat) : Int) := by rw [IntKind.wrap_i64]; omega
      have HS := hid hsum2
      have HLT := hid (show w1.rangeLeft mb w.heap.size < wr.rangeLeft mb w.heap.size by rw [hrg1.left_eq, HR.out.rg.left_eq]; exact hlt)
      clear hkey hlk hv hat hrg1 hlt hg1 hs1 e1 e2 e3 hfin hri hsum hsum2 hle hqq hN hM
      go_wp2_with (go_at_call 41; refine HC.out.mono ?_; rintro e w2 ⟨rfl, hb2⟩)
      go_roundw
      case rel => exact ⟨fun z => left z && !z.sameKey kl, cnt1, by rw [HS.out]; first | rfl | simp, HR1.out.below hb2⟩
      case measure =>
        have e1 := HR1.out.rg.left_eq
        have e2 := (HR1.out.below hb2).rg.left_eq
        have := HLT.out
        rw [e2, ← e1]
        exact this

set_option maxHeartbeats 1000000 in
theorem loose_ok {B db mb : Nat} {fs : List Fl} {z s u : Int} {w : World} (h : Dk w B db mb fs z s u) (hd : sizeF fs ≤ 1000000000) (hm : ∀ f ∈ fs, f.m ≤ f.d.length) : Calls Try.prog 25 #[.pointer (some ⟨db, 0, none⟩)] w fun e w' => e = .returned (.int .i64 ((looseF fs : Nat) : Int)) ∧ Below w.heap.size w w' := by
  have hle : looseF fs ≤ sizeF fs := by
    unfold looseF sizeF
    clear h hd hm
    induction fs with
    | nil => exact Nat.le_refl _
    | cons a t ih => simp only [List.map_cons, List.sum_cons]; omega
  have HT := hid (total_loose h (show looseF fs ≤ 1000000000 by omega) (fun f hf => ⟨hm f hf, Nat.le_trans (sizeF_le hf) hd⟩))
  clear h
  go_enter Try.func25, Try.ntmps25
  go_wp2_with (go_at_call 40; refine HT.out.mono ?_; rintro e w2 ⟨rfl, hb2⟩)
  go_ret
  exact ⟨rfl, hb2⟩
end Go.Proofs.Ytofkfafdodhmdaa
