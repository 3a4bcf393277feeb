/- Several texts in one: MfO MfP. Conditions: as each theorem names them. -/
import Derived.Test.YtofkfafdodhmdaaGreatDoorNN
import Derived.Test.YtofkfafdodhmdaaGreatDoorMfIa
import Derived.Test.YtofkfafdodhmdaaGreatDoorNH
import Derived.Test.YtofkfafdodhmdaaGreatDoorNE
/- package manifest's add, replace. Conditions: the disk stands and is good behind at most a thousand calls. -/
namespace Go.Proofs.YtofkfafdodhmdaaGreatDoor
open Go.RowKit

section
variable {w : World} {B db mb i : Nat} {z : Int} {fs : List Fl} {p : PV}
set_option maxHeartbeats 4000000 in
theorem add9 (h : Sd w B db mb z i fs p) (hi : i ≤ 999) (hz : 0 ≤ z ∧ z ≤ 16777216) (x : ByteArray) (hx : x.size ≤ 1000) (vb : Value) (b : List UInt8) (hb : SlA w vb b) :
    Calls Tryz.prog 53 #[.pointer (some ⟨db, 0, none⟩), .string x, vb] w fun e w' => e = .returned (.int .i64 (pAdd x b z p).1) ∧ ∃ fs', Sd w' B db mb z (i + 2) fs' (pAdd x b z p).2 ∧ Mv w w' db mb fs fs' := by
  obtain ⟨q, hq⟩ : ∃ q, (pWrite x b z p).1 = q := ⟨_, rfl⟩
  have HW : Hid (Calls Tryz.prog 24 #[.pointer (some ⟨db, 0, none⟩), .string x, vb] w fun e w' => ∃ fs', e = .returned (.int .i64 q) ∧ Hid (Sd w' B db mb z (i + 1) fs' (pWrite x b z p).2 ∧ Mv w w' db mb fs fs')) := by
    refine (write9 h (by omega) hz x hx vb b hb).mono ?_
    rintro e w' ⟨rfl, fs', h1, h2⟩
    exact ⟨fs', by rw [hq], h1, h2⟩
  have HS : Hid (∀ w1 fs1, Sd w1 B db mb z (i + 1) fs1 (pWrite x b z p).2 → Calls Tryz.prog 87 #[.pointer (some ⟨db, 0, none⟩), .string x] w1 fun e w' => e = .returned (.int .i64 (pSync x (pWrite x b z p).2).1) ∧ ∃ fs', Sd w' B db mb z (i + 2) fs' (pSync x (pWrite x b z p).2).2 ∧ Mv w1 w' db mb fs1 fs') := fun w1 fs1 h1 => sync9 h1 x hx
  obtain ⟨A, c, rfl, _⟩ := hb
  generalize b.length = n at HW ⊢
  clear h hi hz
  by_cases hq0 : q = 0
  · have HP : Hid (pAdd x b z p = pSync x (pWrite x b z p).2) := by unfold Hid pAdd; rw [if_pos (hq.trans hq0)]
    rw [HP.out]
    subst hq0
    clear hq HP
    go_enter Tryz.func53, Tryz.ntmps53
    go_wp2_with (first
      | (go_at_call 24; refine HW.out.mono ?_; rintro e w1 ⟨fs1, rfl, H1⟩)
      | (go_at_call 87; refine (HS.out _ _ H1.out.1).mono ?_; rintro e w2 ⟨rfl, H2⟩))
    go_ret
    obtain ⟨fs2, h2, m2⟩ := H2
    exact ⟨rfl, fs2, h2, H1.out.2.trans m2⟩
  · have HP : Hid (pAdd x b z p = pWrite x b z p) := by unfold Hid pAdd; rw [if_neg (fun e => hq0 (hq.symm.trans e))]
    rw [HP.out, hq]
    have hb : (q != 0) = true := by simpa using hq0
    clear hq HP hq0
    go_enter Tryz.func53, Tryz.ntmps53
    go_wp2_with (go_at_call 24; refine HW.out.mono ?_; rintro e w1 ⟨fs1, rfl, H1⟩)
    go_ret
    exact ⟨rfl, fs1, H1.out.1.upto (by omega), H1.out.2⟩

set_option maxRecDepth 100000 in
set_option maxHeartbeats 8000000 in
theorem repl9 (h : Sd w B db mb z i fs p) (hi : i ≤ 990) (hz : 0 ≤ z ∧ z ≤ 16777216) (vb : Value) (b : List UInt8) (hb : SlA w vb b) (hv : ∀ g, vb.ownBlock = some g → ¬ Ft db mb fs g) :
    Calls Tryz.prog 52 #[.pointer (some ⟨db, 0, none⟩), .string mN, vb] w fun e w' => e = .returned (.int .i64 (pRepl b z p).1) ∧ ∃ fs', Sd w' B db mb z (i + 4) fs' (pRepl b z p).2 ∧ Mv w w' db mb fs fs' := by
  obtain ⟨q0, hq0⟩ : ∃ q, (pRem mT p).1 = q := ⟨_, rfl⟩
  obtain ⟨q, hq⟩ : ∃ q, (pAdd mT b z (pRem mT p).2).1 = q := ⟨_, rfl⟩
  have HR : Hid (Calls Tryz.prog 85 #[.pointer (some ⟨db, 0, none⟩), .string mT] w fun e w' => ∃ fs', e = .returned (.int .i64 q0) ∧ Hid (Sd w' B db mb z (i + 1) fs' (pRem mT p).2 ∧ Mv w w' db mb fs fs')) := by
    refine (rem9 h (by omega) hz mT (by decide)).mono ?_
    rintro e w' ⟨rfl, fs', h1, h2⟩
    exact ⟨fs', by rw [hq0], h1, h2⟩
  have HA : Hid (∀ w1 fs1, Sd w1 B db mb z (i + 1) fs1 (pRem mT p).2 ∧ Mv w w1 db mb fs fs1 → Calls Tryz.prog 53 #[.pointer (some ⟨db, 0, none⟩), .string mT, vb] w1 fun e w' => ∃ fs', e = .returned (.int .i64 q) ∧ Hid (Sd w' B db mb z (i + 3) fs' (pAdd mT b z (pRem mT p).2).2 ∧ Mv w w' db mb fs fs')) := fun w1 fs1 h1 => by
    refine (add9 h1.1 (by omega) hz mT (by decide) vb b (hb.mv h1.2 hv)).mono ?_
    rintro e w' ⟨rfl, fs', h2, h3⟩
    exact ⟨fs', by rw [hq], h2, h1.2.trans h3⟩
  have HN : Hid (∀ w1 fs1, Sd w1 B db mb z (i + 3) fs1 (pAdd mT b z (pRem mT p).2).2 ∧ Mv w w1 db mb fs fs1 → Calls Tryz.prog 86 #[.pointer (some ⟨db, 0, none⟩), .string mT, .string mN] w1 fun e w' => e = .returned (.int .i64 (pRen mT mN (pAdd mT b z (pRem mT p).2).2).1) ∧ ∃ fs', Sd w' B db mb z (i + 4) fs' (pRen mT mN (pAdd mT b z (pRem mT p).2).2).2 ∧ Mv w w' db mb fs fs') := fun w1 fs1 h1 => by
    refine (ren9 h1.1 (by omega) hz mT mN (by decide) (by decide)).mono ?_
    rintro e w' ⟨rfl, fs', h2, h3⟩
    exact ⟨rfl, fs', h2, h1.2.trans h3⟩
  obtain ⟨A, c, rfl, _⟩ := hb
  generalize b.length = n at HA ⊢
  clear h hi hz hv hq0
  by_cases hz0 : q = 0
  · have HP : Hid (pRepl b z p = pRen mT mN (pAdd mT b z (pRem mT p).2).2) := by unfold Hid pRepl; rw [if_pos (hq.trans hz0)]
    rw [HP.out]
    subst hz0
    clear hq HP
    go_enter Tryz.func52, Tryz.ntmps52
    go_wp2_with (first
      | (go_at_call 85; refine HR.out.mono ?_; rintro e w1 ⟨fs1, rfl, H1⟩)
      | (go_at_call 53; refine (HA.out _ _ H1.out).mono ?_; rintro e w2 ⟨fs2, rfl, H2⟩)
      | (go_at_call 86; refine (HN.out _ _ H2.out).mono ?_; rintro e w3 ⟨rfl, H3⟩))
    go_ret
    exact ⟨rfl, H3⟩
  · have HP : Hid (pRepl b z p = pAdd mT b z (pRem mT p).2) := by unfold Hid pRepl; rw [if_neg (fun e => hz0 (hq.symm.trans e))]
    rw [HP.out, hq]
    have hb : (q != 0) = true := by simpa using hz0
    clear hq HP hz0
    go_enter Tryz.func52, Tryz.ntmps52
    go_wp2_with (first
      | (go_at_call 85; refine HR.out.mono ?_; rintro e w1 ⟨fs1, rfl, H1⟩)
      | (go_at_call 53; refine (HA.out _ _ H1.out).mono ?_; rintro e w2 ⟨fs2, rfl, H2⟩))
    go_ret
    exact ⟨rfl, fs2, H2.out.1.upto (by omega), H2.out.2⟩
end
end Go.Proofs.YtofkfafdodhmdaaGreatDoor

/- package manifest's Load, Save. Conditions: the disk stands and is good behind at most 990 calls; the manifest has a million bytes at most. -/
namespace Go.Proofs.YtofkfafdodhmdaaGreatDoor
open Go.RowKit

def pSave (s : Sta) (z : Int) (p : PV) : Int × PV :=
  if s.right = true then
    match readS (rdM p) with
    | none => (20, p)
    | some (x, n) =>
      if 0 < n ∧ s.g ≠ x.g + 1 then (10, p)
      else if 2048 ≤ (rdM p).length then pRepl (frameM s.enc) z p
      else if n < (rdM p).length then
        (if (pRepl ((rdM p).take n) z p).1 = 0 then pAdd mN (frameM s.enc) z (pRepl ((rdM p).take n) z p).2 else pRepl ((rdM p).take n) z p)
      else pAdd mN (frameM s.enc) z p
  else (10, p)
theorem readS_le {l : List UInt8} {x : Sta} {n : Nat} (h : readS l = some (x, n)) : n ≤ l.length := by
  unfold readS at h
  by_cases q : (allF l).2.2 = 2
  · rw [if_pos q] at h; cases h
  · rw [if_neg q] at h
    obtain ⟨s, _, e⟩ := Option.map_eq_some_iff.1 h
    cases e
    exact (allF_rows _ l (Nat.le_refl _)).2.2
theorem allF_zero : ∀ (n : Nat) (l : List UInt8), l.length ≤ n → ((allF l).2.1 = 0 ↔ (allF l).1 = [])
  | n, [], _ => by rw [allF_nil]; exact ⟨fun _ => rfl, fun _ => rfl⟩
  | 0, y :: t, h => by simp at h
  | n + 1, y :: t, h => by
    cases hn : nextM (y :: t) with
    | torn => rw [allF_torn hn (by simp)]; exact ⟨fun _ => rfl, fun _ => rfl⟩
    | bad => rw [allF_bad hn (by simp)]; exact ⟨fun _ => rfl, fun _ => rfl⟩
    | whole x r =>
      obtain ⟨k, h1, h2, h3, h4, _⟩ := next_less hn
      have hr : r.length + (k + x.length + 4) = (y :: t).length := by rw [h4, List.length_drop]; omega
      rw [allF_whole hn]
      constructor
      · intro e
        have e2 : (y :: t).length - r.length + (allF r).2.1 = 0 := e
        omega
      · intro e; cases e
/-- Where there is a frame, the state is right; else it is the first one. -/
theorem readS_gen {l : List UInt8} {x : Sta} {n : Nat} (h : readS l = some (x, n)) : (0 < n → x.right = true) ∧ (n = 0 → x = sta0) := by
  unfold readS at h
  by_cases q : (allF l).2.2 = 2
  · rw [if_pos q] at h; cases h
  · rw [if_neg q] at h
    obtain ⟨s, h1, e⟩ := Option.map_eq_some_iff.1 h
    cases e
    have hz := allF_zero _ l (Nat.le_refl _)
    refine ⟨fun h0 => foldS_right _ _ _ _ (fun e => ?_) h1, fun h0 => ?_⟩
    · have := hz.2 e; omega
    · rw [hz.1 h0] at h1
      exact (Option.some.inj h1).symm

def load9_anyEnd (w : World) (l : List UInt8) (e : Ending) (w' : World) : Prop :=
  (match readS l with
    | some (s, _) => ∃ v, e = .returned (.tuple #[staV s.g s.a s.n v, .int .i64 0]) ∧ SlI w' v s.t
    | none => e = .returned (.tuple #[staV 0 0 0 (.slice Option.none 0 0), .int .i64 20])) ∧ Below w.heap.size w w'
set_option maxRecDepth 100000 in
set_option maxHeartbeats 8000000 in
theorem load9_any {w : World} {B db mb i : Nat} {z : Int} {fs : List Fl} {p : PV} (h : Sd w B db mb z i fs p) (hl : (rdM p).length ≤ 1000000) :
    Calls Tryz.prog 28 #[.pointer (some ⟨db, 0, none⟩), .string mN] w (load9_anyEnd w (rdM p)) := by
  obtain ⟨l, el⟩ : ∃ l, rdM p = l := ⟨_, rfl⟩
  have HD : Hid (∀ W, Below w.heap.size w W → Calls Tryz.prog 30 #[.pointer (some ⟨db, 0, none⟩), .string mN] W fun e w' => ∃ A9 m9 c9 o, e = .returned (.tuple #[.slice A9 m9 c9, .bool o]) ∧ Hid (SlA w' (.slice A9 m9 c9) l) ∧ Below W.heap.size W w') := fun W hW => by
    refine (read9m (h.below hW) hl).mono ?_
    rintro e w' ⟨v, o, rfl, h1, h2⟩
    rw [el] at h1
    have h3 := h1.sla
    obtain ⟨A9, c9, rfl, _⟩ := id h3
    exact ⟨A9, _, c9, o, rfl, h3, h2⟩
  rw [el] at hl ⊢
  have HR : Hid (∀ W v, SlA W v l → Calls Tryz.prog 13 #[v] W (RdsEnd W l)) := fun W v hv => read9_any v l hl W hv
  clear h el hl
  cases hr : readS l with
  | none =>
    have HE : Hid (∀ e w', e = .returned (.tuple #[staV 0 0 0 (.slice Option.none 0 0), .int .i64 20]) → Below w.heap.size w w' → load9_anyEnd w l e w') := fun e w' h1 h2 => ⟨by rw [hr]; exact h1, h2⟩
    have HR : Hid (∀ W v, SlA W v l → Calls Tryz.prog 13 #[v] W fun e w' => e = .returned (.tuple #[staV 0 0 0 (.slice Option.none 0 0), .int .i64 0, .int .i64 20]) ∧ Below W.heap.size W w') := fun W v hv => by
      refine (HR.out W v hv).mono ?_
      rintro e w' ⟨h1, h2⟩
      rw [hr] at h1
      exact ⟨h1, h2⟩
    clear hr
    go_enter Tryz.func28, Tryz.ntmps28
    go_upto_region 3 with (first
      | (go_at_call 30; refine (HD.out _ (below_new _ _)).mono ?_; rintro e w1 ⟨A9, m9, c9, o, rfl, H9, hb1⟩)
      | (go_at_call 13; refine (HR.out _ _ H9.out).mono ?_; rintro e w2 ⟨rfl, hb2⟩))
    obtain ⟨b8, hb8⟩ : ∃ b8, w2.heap.size = b8 := ⟨_, rfl⟩
    refine wp_ltc (fun W => Hid (Blk W w.heap.size 29 #[.int .i64 0, .int .i64 0, .int .i64 0, .slice Option.none 0 0] ∧ Blk W b8 29 #[.int .i64 0, .int .i64 0, .int .i64 0, .slice Option.none 0 0] ∧ Below w.heap.size w W)) ?_ ?_
    · have e1 := below_new w2 (.cells #[.int .i64 0, .int .i64 0, .int .i64 0, .slice Option.none 0 0] 29)
      have e2 := (hb1.trans (hb2.mono hb1.size)).trans (e1.mono (Nat.le_trans hb1.size hb2.size))
      exact ⟨(Blk.new w _ _).keep e2 (by simp), by rw [← hb8]; exact Blk.new _ _ _, (below_new w _).trans (e2.mono (by simp))⟩
    rw [hb8]
    intro W HW
    clear hb1 hb2 hb8
    have q0 : W.cell? ⟨b8, 0, Option.none⟩ = some (.int .i64 0) := HW.out.2.1.cell 0
    have q1 : W.cell? ⟨b8, 1, Option.none⟩ = some (.int .i64 0) := HW.out.2.1.cell 1
    have q2 : W.cell? ⟨b8, 2, Option.none⟩ = some (.int .i64 0) := HW.out.2.1.cell 2
    have q3 : W.cell? ⟨b8, 3, Option.none⟩ = some (.slice Option.none 0 0) := HW.out.2.1.cell 3
    have r0 : W.cell? ⟨w.heap.size, 0, Option.none⟩ = some (.int .i64 0) := HW.out.1.cell 0
    have r1 : W.cell? ⟨w.heap.size, 1, Option.none⟩ = some (.int .i64 0) := HW.out.1.cell 1
    have r2 : W.cell? ⟨w.heap.size, 2, Option.none⟩ = some (.int .i64 0) := HW.out.1.cell 2
    have r3 : W.cell? ⟨w.heap.size, 3, Option.none⟩ = some (.slice Option.none 0 0) := HW.out.1.cell 3
    have rf : ∀ j, W.frozen? ⟨w.heap.size, j, Option.none⟩ = false := fun j => HW.out.1.free j
    go_wp2
    refine bodyPost_ret (v := .tuple #[staV 0 0 0 (.slice Option.none 0 0), .int .i64 20]) (by simp [results, Tryz.results28, go_sem, cell_set_eq9, r0, r1, r2, r3]) rfl ?_
    refine HE.out _ _ rfl ?_
    iterate 4 (refine Below.setCell ?_ (by simp) _)
    exact HW.out.2.2
  | some pr =>
    obtain ⟨⟨g, a, n, t⟩, N⟩ := pr
    have HE : Hid (∀ e w' v, e = .returned (.tuple #[staV g a n v, .int .i64 0]) → SlI w' v t → Below w.heap.size w w' → load9_anyEnd w l e w') := fun e w' v h1 h2 h3 => ⟨by rw [hr]; exact ⟨v, h1, h2⟩, h3⟩
    have HR : Hid (∀ W v, SlA W v l → Calls Tryz.prog 13 #[v] W fun e w' => ∃ A3 m3 c3, e = .returned (.tuple #[staV g a n (.slice A3 m3 c3), .int .i64 (N : Int), .int .i64 0]) ∧ Hid (SlI w' (.slice A3 m3 c3) t ∧ OwnN (.slice A3 m3 c3) W.heap.size w'.heap.size) ∧ Below W.heap.size W w') := fun W v hv => by
      refine (HR.out W v hv).mono ?_
      rintro e w' ⟨h1, h2⟩
      rw [hr] at h1
      obtain ⟨v3, rfl, h3, h4⟩ := h1
      obtain ⟨A3, c3, rfl, _⟩ := id h3
      exact ⟨A3, _, c3, rfl, ⟨h3, h4⟩, h2⟩
    clear hr
    go_enter Tryz.func28, Tryz.ntmps28
    go_upto_region 3 with (first
      | (go_at_call 30; refine (HD.out _ (below_new _ _)).mono ?_; rintro e w1 ⟨A9, m9, c9, o, rfl, H9, hb1⟩)
      | (go_at_call 13; refine (HR.out _ _ H9.out).mono ?_; rintro e w2 ⟨A3, m3, c3, rfl, HV, hb2⟩))
    obtain ⟨b8, hb8⟩ : ∃ b8, w2.heap.size = b8 := ⟨_, rfl⟩
    refine wp_ltc (fun W => Hid (Blk W w.heap.size 29 #[.int .i64 0, .int .i64 0, .int .i64 0, .slice Option.none 0 0] ∧ Blk W b8 29 #[.int .i64 g, .int .i64 a, .int .i64 n, .slice A3 m3 c3] ∧ Below w.heap.size w W ∧ SlI W (.slice A3 m3 c3) t ∧ (Value.slice A3 m3 c3).ownBlock ≠ some w.heap.size)) ?_ ?_
    · have e1 := below_new w2 (.cells #[.int .i64 g, .int .i64 a, .int .i64 n, .slice A3 m3 c3] 29)
      have e2 := (hb1.trans (hb2.mono hb1.size)).trans (e1.mono (Nat.le_trans hb1.size hb2.size))
      refine ⟨(Blk.new w _ _).keep e2 (by simp), by rw [← hb8]; exact Blk.new _ _ _, (below_new w _).trans (e2.mono (by simp)), HV.out.1.below e1, fun q => ?_⟩
      have h1 := (HV.out.2 _ q).1
      have h2 := hb1.size
      simp at h2
      omega
    rw [hb8]
    intro W HW
    clear hb1 hb2 hb8
    have q0 : W.cell? ⟨b8, 0, Option.none⟩ = some (.int .i64 g) := HW.out.2.1.cell 0
    have q1 : W.cell? ⟨b8, 1, Option.none⟩ = some (.int .i64 a) := HW.out.2.1.cell 1
    have q2 : W.cell? ⟨b8, 2, Option.none⟩ = some (.int .i64 n) := HW.out.2.1.cell 2
    have q3 : W.cell? ⟨b8, 3, Option.none⟩ = some (.slice A3 m3 c3) := HW.out.2.1.cell 3
    have r0 : W.cell? ⟨w.heap.size, 0, Option.none⟩ = some (.int .i64 0) := HW.out.1.cell 0
    have r1 : W.cell? ⟨w.heap.size, 1, Option.none⟩ = some (.int .i64 0) := HW.out.1.cell 1
    have r2 : W.cell? ⟨w.heap.size, 2, Option.none⟩ = some (.int .i64 0) := HW.out.1.cell 2
    have r3 : W.cell? ⟨w.heap.size, 3, Option.none⟩ = some (.slice Option.none 0 0) := HW.out.1.cell 3
    have rf : ∀ j, W.frozen? ⟨w.heap.size, j, Option.none⟩ = false := fun j => HW.out.1.free j
    go_wp2
    refine bodyPost_ret (v := .tuple #[staV g a n (.slice A3 m3 c3), .int .i64 0]) (by simp [results, Tryz.results28, go_sem, cell_set_eq9, r0, r1, r2, r3]) rfl ?_
    refine HE.out _ _ _ rfl ((((HW.out.2.2.2.1.set HW.out.2.2.2.2).set HW.out.2.2.2.2).set HW.out.2.2.2.2).set HW.out.2.2.2.2) ?_
    iterate 4 (refine Below.setCell ?_ (by simp) _)
    exact HW.out.2.2.1
end Go.Proofs.YtofkfafdodhmdaaGreatDoor
