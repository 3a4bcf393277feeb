/- (*store.file).add. Conditions: the file stands; numbers below 2^40. -/
import Derived.Test.YtofkfafdodhmdaaStF
namespace Go.Proofs.Ytofkfafdodhmdaa
open Go.RowKit

/-- What add leaves. -/
structure AdE (w w' : World) (B : Nat) (f g : Fl) (v : Fv) : Prop where
  sat : FlAt w' B g
  vw : g.v = v
  bk : g.b = f.b
  ch : Chg f.has w w'
  su : ∀ k, g.has k → f.has k ∨ w.heap.size ≤ k

theorem cell_two (w : World) (x y : Value) (t : TypeId) : ∀ j u, ([x, y] : List Value)[j]? = some u → (w.alloc (.cells #[x, y] t)).cell? ((⟨w.heap.size, 0, Option.none⟩ : Addr).add j) = some u := by
  intro j u hj
  rw [add_zero_off, World.cell?_alloc_at _ _ _ _ rfl]
  match j, hj with
  | 0, hj => simpa using hj
  | 1, hj => simpa using hj

set_option maxHeartbeats 1000000 in
theorem add_nil {f : Fl} {w : World} (A : Option Addr) (c : Nat) (u : Int) : Calls Try.prog 47 #[.pointer (some ⟨f.b, 0, none⟩), .slice A 0 c, .int .i64 u] w fun e w' => e = .returned (.tuple #[]) ∧ Below w.heap.size w w' := by
  go_enter Try.func47, Try.ntmps47
  go_wp2
  refine bodyPost_ret (results_none rfl _ _ _) rfl ?_
  exact ⟨rfl, Below.refl _ _⟩

theorem rrow_form {w : World} {B : Nat} {v : Value} {l : List (Nat × Nat)} (h : RRow w B v l) (h0 : l ≠ []) : ∃ g cap, v = .slice (some ⟨g, 0, none⟩) l.length cap := by
  rcases h.2 with ⟨_, e⟩ | ⟨g, cap, _, e, _⟩
  · exact absurd (List.eq_nil_of_length_eq_zero e) h0
  · exact ⟨g, cap, e⟩
/-- Where add is, the bytes being there. -/
structure AdW (w W : World) (B : Nat) (f f1 : Fl) : Prop where
  sat : FlAt W B f1
  ch : Chg f.has w W
  su : ∀ k, f1.has k → f.has k ∨ w.heap.size ≤ k
theorem AdW.drew {w W : World} {B : Nat} {f f1 : Fl} (h : AdW w W B f f1) : AdW w W.drew B f f1 := ⟨h.sat.keep fun _ _ => rfl, h.ch.drew, h.su⟩
theorem ade_end {w W w' : World} {B : Nat} {f f1 g : Fl} {v : Fv} (h : AdW w W B f f1) (r : FlAt w' B g ∧ Chg f1.has W w' ∧ (∀ k, g.has k → f1.has k ∨ W.heap.size ≤ k)) (hv : g.v = v) (hb : g.b = f.b) : AdE w w' B f g v :=
  ⟨r.1, hv, hb, h.ch.trans r.2.1 h.su, fun k q => by
    rcases r.2.2 k q with p | p
    · exact h.su k p
    · exact .inr (Nat.le_trans h.ch.size p)⟩
theorem lv_keep {W w2 : World} {B : Nat} {f : Fl} (h : FlAt W B f) (hg : Chg (fun k => f.lv.ownBlock = some k) W w2) : w2.cell? ⟨f.b, 2, none⟩ = some f.lv ∧ w2.frozen? ⟨f.b, 2, none⟩ = false := by
  have hb : w2.heap[f.b]? = W.heap[f.b]? := hg.block f.b h.blk.lt fun e => by
    obtain ⟨cur, hc⟩ := own_blk h.run e
    exact blk_ne0 hc h.blk (by decide) rfl
  have hk : Blk w2 f.b 76 #[f.dv, .int .i64 (f.m : Int), f.lv, .bool f.h] := hb.trans h.blk
  exact ⟨hk.cell 2, hk.free 2⟩
theorem chg_run {W w2 : World} {o : Obj} {v : Value} (h : (W.alloc o).grownBy w2 v.ownBlock) : Chg (fun k => v.ownBlock = some k) W w2 :=
  (Chg.of_below _ (below_new W o)).trans (Chg.of_grown (S := fun k => v.ownBlock = some k) h fun _ e => .inl e) fun _ q => .inl q
theorem own_or {W : World} {o : Obj} {v v2 : Value} (h : v2.ownBlock = v.ownBlock ∨ v2.ownBlock = some (W.alloc o).heap.size) : v2.ownBlock = v.ownBlock ∨ ∃ k, v2.ownBlock = some k ∧ W.heap.size ≤ k := by
  rcases h with h | h
  · exact .inl h
  · exact .inr ⟨_, h, by simp⟩

set_option maxRecDepth 100000 in
set_option maxHeartbeats 4000000 in
theorem add_some {B : Nat} {f : Fl} {w : World} (ad : Addr) (c u : Nat) (b : List UInt8) (h : FlAt w B f) (hb : HoldsA w (some ad) b) (h0 : 0 < b.length) (_ : u ≤ 1000000000000) (hd : f.d.length + b.length ≤ 100000000) (hl : f.l.length ≤ 1000000) (hr : ∀ r ∈ f.l, r.1 + r.2 ≤ 1000000000000) : Calls Try.prog 47 #[.pointer (some ⟨f.b, 0, none⟩), .slice (some ad) b.length c, .int .i64 (u : Int)] w fun e w' => e = .returned (.tuple #[]) ∧ ∃ g, AdE w w' B f g (f.v.add b u) := by
  have hne : b ≠ [] := fun e => by rw [e] at h0; exact absurd h0 (by decide)
  have HV : Hid (f.v.add b u = { f.v with d := f.d ++ b, l := addR f.l u b.length }) := if_neg hne
  have g0 : ((b.length : Int) == 0) = false := by rw [beq_eq_false_iff_ne]; omega
  obtain ⟨A1, q1, e1, _, _, _, _⟩ := h.row.sla
  have E1 := hid e1
  have hrow := h.row
  rw [e1] at hrow
  have HRow := hid hrow
  have m0 : w.cell? ⟨f.b, 0, none⟩ = some (.slice A1 f.d.length q1) := by rw [← e1]; exact h.blk.cell 0
  have f0 : w.frozen? ⟨f.b, 0, none⟩ = false := h.blk.free 0
  have HF := hid h
  have HB := hid hb
  have HR := hid hr
  have hBw : B ≤ w.heap.size := Nat.le_of_lt (Nat.lt_of_le_of_lt h.lo h.blk.lt)
  have HBw := hid hBw
  have h00 := hid h0
  have hD := hid hd
  clear h hb hr hne hBw e1 hrow
  go_enter Try.func47, Try.ntmps47
  go_upto_region 2 with (at_builtin; refine wpList_append_at rfl (.tmp 14) (.tmp 15) rfl _ B (.slice A1 f.d.length q1) f.d rfl HRow.out ad c b rfl h00.out HB.out hD.out HBw.out ?_; intro v1 w1 hr1 hg1 hl1; obtain ⟨A2, q2, e2, _⟩ := hr1.sla; obtain ⟨n2, hn2⟩ : ∃ n, (f.d ++ b).length = n := ⟨_, rfl⟩; rw [hn2] at e2; subst e2; clear hn2; rw [← E1.out] at hg1 hl1; have HM := hid (flat_more HF.out hr1 hg1 hl1); have m0 : w1.cell? ⟨f.b, 0, none⟩ = some (.slice A1 f.d.length q1) := (World.cell?_of_block (hg1.block f.b HF.out.blk.lt (fun e => by obtain ⟨cur, hc⟩ := own_blk HF.out.row e.symm; exact blk_ne0 hc HF.out.blk (by decide) rfl))).trans (by rw [← E1.out]; exact HF.out.blk.cell 0); have f0 : w1.frozen? ⟨f.b, 0, none⟩ = false := (World.frozen?_of_block (hg1.block f.b HF.out.blk.lt (fun e => by obtain ⟨cur, hc⟩ := own_blk HF.out.row e.symm; exact blk_ne0 hc HF.out.blk (by decide) rfl))).trans (HF.out.blk.free 0); clear hr1 hg1 hl1)
  obtain ⟨f1, hf1⟩ : ∃ f1, f.more (.slice A2 n2 q2) b = f1 := ⟨_, rfl⟩
  rw [hf1] at HM
  refine wp_ltc (fun W => Hid (AdW w W B f f1)) ⟨HM.out.1, HM.out.2.1, HM.out.2.2⟩ (fun W HW => ?_)
  have p1 : f1.b = f.b := by rw [← hf1]; rfl
  have p2 : f1.lv = f.lv := by rw [← hf1]; rfl
  have p3 : f1.l = f.l := by rw [← hf1]; rfl
  have p4 : Hid (∀ v l, (f1.runs v l).v = { f.v with d := f.d ++ b, l := l }) := fun v l => by rw [← hf1]; rfl
  have P1 := hid p1
  have P3 := hid p3
  clear HM m0 f0 hf1
  have HBW : Hid (∀ W, AdW w W B f f1 → B ≤ W.heap.size) := fun W h => Nat.le_trans HBw.out h.ch.size
  have k2 : W.cell? ⟨f.b, 2, none⟩ = some f.lv := by rw [← p1, ← p2]; exact HW.out.sat.blk.cell 2
  rcases List.eq_nil_or_concat f.l with el | ⟨r, ⟨a, s⟩, el⟩
  · have hlv : ∃ cap A, f.lv = .slice A 0 cap := by
      have h := HW.out.sat.run
      rw [p2, p3, el] at h
      rcases h.2 with ⟨e, _⟩ | ⟨g, cap, cur, e, _⟩
      · exact ⟨0, none, e⟩
      · exact ⟨cap, some ⟨g, 0, none⟩, e⟩
    obtain ⟨cap, A, elv⟩ := hlv
    rw [elv] at k2
    have HEL := hid el
    have HELV := hid (p2.trans elv)
    have hw1 : IntKind.i64.wrap ((0 : Int) - 1) = -1 := by decide
    have HK : Hid (∀ W, AdW w W B f f1 → RRow W B (.slice A 0 cap) [] ∧ W.cell? ⟨f.b, 2, none⟩ = some (.slice A 0 cap)) := fun W h => by
      refine ⟨?_, ?_⟩
      · have := h.sat.run
        rw [p3, el, p2, elv] at this
        exact this
      · rw [← elv, ← p2, ← p1]; exact h.sat.blk.cell 2
    clear el elv p1 p2 p3
    go_upto_region 3 with (fail)
    go_region
    go_upto_region 5 with (fail)
    refine wp_ltc (fun W => Hid (AdW w W B f f1)) (by first | exact HW.out.drew | exact HW.out) (fun W3 H3 => ?_)
    obtain ⟨hrw, k3⟩ := HK.out W3 H3.out
    have HRw := hid hrw
    clear k2 HW hrw HK
    go_wp2_with (at_builtin; refine wpList_append_run1 rfl (.tmp 65) (.tmp 70) rfl _ B (.slice A 0 cap) [] rfl (World.ownsRow.alloc HRw.out _) _ _ (u, b.length) rfl (cell_two _ _ _ _) (by simp) (by have := HBW.out W3 H3.out; simp; omega) ?_; intro v2 w2 hr2 hg2 hl2; obtain ⟨g3, q3, e3⟩ := rrow_form hr2 (by simp); subst e3; rw [← HELV.out] at hg2 hl2; have HE := hid (flat_runs H3.out.sat hr2 (chg_run hg2) (own_or hl2)); obtain ⟨j2, f2⟩ := lv_keep H3.out.sat (chg_run hg2); rw [P1.out, HELV.out] at j2; rw [P1.out] at f2; clear hr2 hg2 hl2)
    go_end0
    rw [P1.out] at HE
    refine ⟨rfl, _, ade_end H3.out HE.out ?_ P1.out⟩
    rw [p4.out, HV.out, HEL.out]
    rfl
  · rw [List.concat_eq_append] at el
    obtain ⟨k, hk⟩ : ∃ k, r.length = k := ⟨_, rfl⟩
    obtain ⟨n1, hn1⟩ : ∃ n, k + 1 = n := ⟨_, rfl⟩
    have hlen : f.l.length = n1 := by rw [el]; simp [hk, hn1]
    have hrow0 : RRow W B f.lv f.l := by have := HW.out.sat.run; rw [p2, p3] at this; exact this
    obtain ⟨g, cap, elv⟩ := rrow_form hrow0 (by rw [el]; simp)
    rw [hlen] at elv
    rw [elv] at k2
    have HELV := hid (p2.trans elv)
    have HEL := hid el
    have HLn := hid hlen
    have HKn := hid hk
    have HN1 := hid hn1
    have HK : Hid (∀ W, AdW w W B f f1 → W.ownsRow B 81 2 (.slice (some ⟨g, 0, none⟩) n1 cap) n1 (flatR f.l) ∧ W.cell? ⟨f.b, 2, none⟩ = some (.slice (some ⟨g, 0, none⟩) n1 cap) ∧ W.cell? ⟨g, k * 2, none⟩ = some (.int .i64 (a : Int)) ∧ W.cell? ⟨g, k * 2 + 1, none⟩ = some (.int .i64 (s : Int)) ∧ W.frozen? ⟨g, k * 2 + 1, none⟩ = false) := fun W h => by
      have h1 := h.sat.run
      rw [p3, p2, elv] at h1
      unfold RRow at h1
      rw [hlen] at h1
      have ha := own_cells h1 (j := k * 2) (x := .int .i64 (a : Int)) (by rw [el, flatR_app, List.getElem?_append_right (by rw [flatR_len]; omega), flatR_len, hk, Nat.sub_self]; rfl)
      have hs := own_cells h1 (j := k * 2 + 1) (x := .int .i64 (s : Int)) (by rw [el, flatR_app, List.getElem?_append_right (by rw [flatR_len]; omega), flatR_len, hk, show k * 2 + 1 - k * 2 = 1 by omega]; rfl)
      refine ⟨h1, ?_, ha.1, hs.1, hs.2⟩
      rw [← elv, ← p2, ← p1]; exact h.sat.blk.cell 2
    have hrs := HR.out (a, s) (by rw [el]; simp)
    have hw1 : IntKind.i64.wrap ((n1 : Int) - 1) = (k : Int) := by rw [IntKind.wrap_i64]; omega
    have hw2 : IntKind.i64.wrap ((a : Int) + (s : Int)) = (a : Int) + (s : Int) := by rw [IntKind.wrap_i64]; simp at hrs; omega
    have hk1 : k < n1 := by omega
    have hw3 : IntKind.i64.wrap ((s : Int) + (b.length : Int)) = ((s + b.length : Nat) : Int) := by rw [IntKind.wrap_i64]; simp at hrs; omega
    obtain ⟨_, _, ha1, hs1, hs2⟩ := HK.out W HW.out
    clear el elv hrs hk hn1 hlen hrow0 p1 p2 p3
    by_cases hq : a + s = u
    · have hq1 : ((a : Int) + (s : Int) == (u : Int)) = true := by rw [beq_iff_eq]; omega
      have HQ := hid hq
      clear hq
      go_upto_region 3 with (fail)
      go_region
      go_upto_region 4 with (fail)
      refine wp_ltc (fun W => Hid (AdW w W B f f1)) (by first | exact HW.out.drew | exact HW.out) (fun W3 H3 => ?_)
      obtain ⟨_, k3, hb1, hb2, hb3⟩ := HK.out W3 H3.out
      clear k2 HW HK ha1 hs1 hs2
      go_wp2
      refine bodyPost_ret (results_none rfl _ _ _) rfl ?_
      have HE := flat_last (n := b.length) H3.out.sat (HELV.out.trans (by rw [← HN1.out])) (P3.out.trans HEL.out) HKn.out
      refine ⟨rfl, _, ade_end H3.out HE ?_ P1.out⟩
      rw [p4.out, HV.out, HEL.out, addR_snoc, if_pos HQ.out]
    · have hq1 : ((a : Int) + (s : Int) == (u : Int)) = false := by rw [beq_eq_false_iff_ne]; omega
      have HQ := hid hq
      clear hq
      go_upto_region 3 with (fail)
      go_region
      go_upto_region 5 with (fail)
      refine wp_ltc (fun W => Hid (AdW w W B f f1)) (by first | exact HW.out.drew | exact HW.out) (fun W3 H3 => ?_)
      obtain ⟨hrw, k3, _, _, _⟩ := HK.out W3 H3.out
      have hrw2 : RRow W3 B (.slice (some ⟨g, 0, none⟩) n1 cap) f.l := by unfold RRow; rw [HLn.out]; exact hrw
      have HRw := hid hrw2
      clear k2 HW hrw hrw2 HK ha1 hs1 hs2
      go_wp2_with (at_builtin; refine wpList_append_run1 rfl (.tmp 65) (.tmp 70) rfl _ B (.slice (some ⟨g, 0, none⟩) n1 cap) f.l rfl (World.ownsRow.alloc HRw.out _) _ _ (u, b.length) rfl (cell_two _ _ _ _) hl (by have := HBW.out W3 H3.out; simp; omega) ?_; intro v2 w2 hr2 hg2 hl2; obtain ⟨g3, q3, e3⟩ := rrow_form hr2 (by simp); obtain ⟨n3, hn3⟩ : ∃ n, (f.l ++ [(u, b.length)]).length = n := ⟨_, rfl⟩; rw [hn3] at e3; subst e3; clear hn3; rw [← HELV.out] at hg2 hl2; have HE := hid (flat_runs H3.out.sat hr2 (chg_run hg2) (own_or hl2)); obtain ⟨j2, f2⟩ := lv_keep H3.out.sat (chg_run hg2); rw [P1.out, HELV.out] at j2; rw [P1.out] at f2; clear hr2 hg2 hl2)
      go_end0
      rw [P1.out] at HE
      refine ⟨rfl, _, ade_end H3.out HE.out ?_ P1.out⟩
      rw [p4.out, HV.out, HEL.out, addR_snoc, if_neg HQ.out]
end Go.Proofs.Ytofkfafdodhmdaa
