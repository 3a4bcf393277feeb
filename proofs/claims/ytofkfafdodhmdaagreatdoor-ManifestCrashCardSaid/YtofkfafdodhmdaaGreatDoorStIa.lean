/- package store's Loose. Conditions: the disk stands; a thousand million bytes at most. -/
import Derived.Test.YtofkfafdodhmdaaGreatDoorNL
namespace Go.Proofs.YtofkfafdodhmdaaGreatDoor
open Go.RowKit

set_option maxHeartbeats 1000000 in
theorem ask_loose {B : Nat} {f : Fl} {w : World} (h : FlAt w B f) (hm : f.m ≤ f.d.length) (hd : f.d.length ≤ 1000000000) : Calls Tryz.prog 71 #[.pointer (some ⟨f.b, 0, none⟩)] w fun e w' => e = .returned (.int .i64 ((f.d.length - f.m : Nat) : Int)) ∧ Below w.heap.size w w' := by
  obtain ⟨A1, q1, e1, _, _, _, _⟩ := h.row.sla
  have m0 : w.cell? ⟨f.b, 0, none⟩ = some (.slice A1 f.d.length q1) := by rw [← e1]; exact h.blk.cell 0
  have m1 : w.cell? ⟨f.b, 1, none⟩ = some (.int .i64 (f.m : Int)) := h.blk.cell 1
  have hw : IntKind.i64.wrap ((f.d.length : Int) - (f.m : Int)) = ((f.d.length - f.m : Nat) : Int) := by rw [IntKind.wrap_i64]; omega
  clear h e1
  go_enter Tryz.func71, Tryz.ntmps71
  go_wp2
  go_region
  all_goals
    go_wp2
    go_ret
    exact ⟨ret_val (int_val (by first | exact hw | rfl)), by repeat (first | exact Below.refl _ _ | refine Below.drew ?_)⟩

set_option maxRecDepth 100000 in
set_option maxHeartbeats 4000000 in
theorem total_loose {B db mb : Nat} {fs : List Fl} {z s u : Int} {w : World} (h : Dk w B db mb fs z s u) (hq : sumQ (fun f => f.d.length - f.m) fs ≤ 1000000000) (hx : ∀ f ∈ fs, f.m ≤ f.d.length ∧ f.d.length ≤ 1000000000) :
    Calls Tryz.prog 64 #[.pointer (some ⟨db, 0, none⟩), .func (.func 71) #[] #[]] w fun e w' => e = .returned (.int .i64 ((sumQ (fun f => f.d.length - f.m) fs : Nat) : Int)) ∧ Below w.heap.size w w' := by
  have m0 : w.cell? ⟨db, 0, none⟩ = some (.map (some mb)) := h.blk.cell 0
  have HD := hid h
  have HQ := hid hq
  have HA : Hid (∀ f ∈ fs, ∀ W, FlAt W B f → Calls Tryz.prog 71 #[.pointer (some ⟨f.b, 0, none⟩)] W fun e w' => e = .returned (.int .i64 ((f.d.length - f.m : Nat) : Int)) ∧ Below W.heap.size W w') := fun f hf W hW => ask_loose hW (hx f hf).1 (hx f hf).2
  clear h hq
  go_enter Tryz.func64, Tryz.ntmps64
  go_wp2_with (first | (at_range; refine wpList_range_own _ rfl _ 88 rfl 9 99 strK Tryz.underlying88 Rp mb _ _ rfl HD.out.map ?_; intro w0 hrg0 hg0 hs0) | go_in)
  go_frame
  have hst : RgS w w0 B mb w.heap.size fs (Maps.has (mapD fs)) (Maps.size (mapD fs)) := ⟨hrg0, (Below.refl _ _).grown hg0 (Nat.le_refl _) (fun k e => by cases e), fun f hf => (HD.out.fl f hf).keep fun k q => hg0.block k (HD.out.lts hf q) (by simp)⟩
  have HST := hid hst
  clear hrg0 hg0 hs0 hst m0
  go_loopw [5] (fun vn wr => ∃ (left : Lit → Bool) (cnt : Nat), vn = .int .i64 ((sumQ (fun f => f.d.length - f.m) (doneF left fs) : Nat) : Int) ∧ Hid (RgS w wr B mb w.heap.size fs left cnt)) (fun _ wr => wr.rangeLeft mb w.heap.size)
  case atStart => exact ⟨_, _, by rw [done_start]; rfl, HST⟩
  case round =>
    obtain ⟨left, cnt, rfl, HR⟩ := hrel
    go_wp2_with (at_next; refine wpList_next_ranges _ rfl _ rfl 9 strK Rp Go.Proofs.encStr ptrB (fun key kl hk => by obtain ⟨x, hx, _⟩ := Maps.keyOf_str Tryz.underlying9 hk; exact ⟨x, hx⟩) (fun v y hv => Rp_inv hv) mb w.heap.size fs.length (mapD fs) left cnt rfl HR.out.rg ?_ ?_)
    · intro hc0 hl0
      go_wp2
      go_ret
      rw [done_end hl0]
      exact ⟨rfl, HR.out.b⟩
    · intro x c kl y1 y2 w1 cnt1 hkey hlk hv hat hrg1 hlt hg1 hs1 hen
      obtain ⟨A, f, C, e1, e2, e3, e4⟩ := next_file (y := (y1, y2)) HD.out.ri hkey hv hat
      subst e4
      have hen : (Instr.entry (.pointer (some ⟨w.heap.size, 0, none⟩))).run Tryz.prog w1 = .ok (.tuple #[Go.Proofs.encStr x, .pointer (some ⟨f.b, 0, none⟩)]) w1 := hen
      have HR1 := hid (HR.out.step (Nat.le_refl _) hrg1 hg1)
      have hfin : f ∈ fs := by rw [e1]; simp
      have HC := hid (HA.out f hfin w1 (HR1.out.fl f hfin))
      have hri := HD.out.ri
      rw [e1] at hri
      rw [e3] at hlk
      have hsum := sumQ_step hri hlk (fun f => f.d.length - f.m)
      rw [← e1, ← e3] at hsum
      have hle := sumQ_le (fun f => f.d.length - f.m) (fun z => left z && !z.sameKey kl) fs
      have hqq := HQ.out
      obtain ⟨N, hN⟩ : ∃ N, sumQ (fun f => f.d.length - f.m) (doneF left fs) = N := ⟨_, rfl⟩
      obtain ⟨M, hM⟩ : ∃ M, f.d.length - f.m = M := ⟨_, rfl⟩
      rw [hM] at HC
      have hsum2 : sumQ (fun f => f.d.length - f.m) (doneF (fun z => left z && !z.sameKey kl) fs) = N + M := by rw [hsum, hN, hM]
      rw [hN]
      have hw : IntKind.i64.wrap ((N : Int) + (M : Int)) = ((N + M : Nat) : Int) := by rw [IntKind.wrap_i64]; omega
      have HS := hid hsum2
      have HLT := hid (show w1.rangeLeft mb w.heap.size < wr.rangeLeft mb w.heap.size by rw [hrg1.left_eq, HR.out.rg.left_eq]; exact hlt)
      clear hkey hlk hv hat hrg1 hlt hg1 hs1 e1 e2 e3 hfin hri hsum hsum2 hle hqq hN hM
      go_wp2_with (go_at_call 71; refine HC.out.mono ?_; rintro e w2 ⟨rfl, hb2⟩)
      go_roundw
      case rel => exact ⟨fun z => left z && !z.sameKey kl, cnt1, by rw [HS.out]; first | rfl | simp, HR1.out.below hb2⟩
      case measure =>
        have e1 := HR1.out.rg.left_eq
        have e2 := (HR1.out.below hb2).rg.left_eq
        have := HLT.out
        rw [e2, ← e1]
        exact this

set_option maxHeartbeats 1000000 in
theorem loose_ok {B db mb : Nat} {fs : List Fl} {z s u : Int} {w : World} (h : Dk w B db mb fs z s u) (hd : sizeF fs ≤ 1000000000) (hm : ∀ f ∈ fs, f.m ≤ f.d.length) : Calls Tryz.prog 36 #[.pointer (some ⟨db, 0, none⟩)] w fun e w' => e = .returned (.int .i64 ((looseF fs : Nat) : Int)) ∧ Below w.heap.size w w' := by
  have hle : looseF fs ≤ sizeF fs := by
    unfold looseF sizeF
    clear h hd hm
    induction fs with
    | nil => exact Nat.le_refl _
    | cons a t ih => simp only [List.map_cons, List.sum_cons]; omega
  have HT := hid (total_loose h (show looseF fs ≤ 1000000000 by omega) (fun f hf => ⟨hm f hf, Nat.le_trans (sizeF_le hf) hd⟩))
  clear h
  go_enter Tryz.func36, Tryz.ntmps36
  go_wp2_with (go_at_call 64; refine HT.out.mono ?_; rintro e w2 ⟨rfl, hb2⟩)
  go_ret
  exact ⟨rfl, hb2⟩
end Go.Proofs.YtofkfafdodhmdaaGreatDoor
