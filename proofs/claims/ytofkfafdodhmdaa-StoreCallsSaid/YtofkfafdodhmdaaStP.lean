/- joistlaw05.do: a call on a disk. Conditions: the disk stands and is good behind at most a thousand calls; names of at most a thousand bytes. -/
import Derived.Test.YtofkfafdodhmdaaStPa
namespace Go.Proofs.Ytofkfafdodhmdaa
open Go.RowKit

set_option maxRecDepth 100000 in
set_option maxHeartbeats 8000000 in
theorem do_any {w : World} {B db mb : Nat} {z : Int} {i : Nat} (c : Cl) (hc : c.ok) {fs : List Fl} {u : Nat} (h : DkAt w B db mb fs z (u : Int)) (hg : GoodV (viewF fs) z u i) (hi : i ≤ 1000) (hz : 0 ≤ z ∧ z ≤ 16777216) (hd : SlA w c.dv c.d) :
    Calls Try.prog 12 #[.pointer (some ⟨db, 0, none⟩), c.v] w fun e w' => ∃ q fs' u', e = .returned (.int .i64 q) ∧ DoE w w' B db mb z i c q fs u fs' u' := by
  have hB := fun o => below_new w o
  have H0 : Hid (c.wh = 0 → ∀ W, Below w.heap.size w W → Calls Try.prog 30 #[.pointer (some ⟨db, 0, none⟩), .string c.nm, c.dv] W fun e w' => ∃ q fs' u', e = .returned (.int .i64 q) ∧ DoE w w' B db mb z i c q fs u fs' u') := fun e W hW => (write_do c hc e (h.below hW) hg hi hz (hd.below hW)).mono fun _ _ ⟨q, fs', u', e, h⟩ => ⟨q, fs', u', e, h.lift hW⟩
  have H1 : Hid (c.wh = 1 → ∀ W, Below w.heap.size w W → Calls Try.prog 31 #[.pointer (some ⟨db, 0, none⟩), .string c.nm] W fun e w' => ∃ q fs' u', e = .returned (.int .i64 q) ∧ DoE w w' B db mb z i c q fs u fs' u') := fun e W hW => (sync_do c hc e (h.below hW) hg).mono fun _ _ ⟨q, fs', u', e, h⟩ => ⟨q, fs', u', e, h.lift hW⟩
  have H2 : Hid (c.wh = 2 → ∀ W, Below w.heap.size w W → Calls Try.prog 32 #[.pointer (some ⟨db, 0, none⟩), .string c.nm] W fun e w' => ∃ q fs' u', e = .returned (.int .i64 q) ∧ DoE w w' B db mb z i c q fs u fs' u') := fun e W hW => (remove_do c hc e (h.below hW) hg hi hz).mono fun _ _ ⟨q, fs', u', e, h⟩ => ⟨q, fs', u', e, h.lift hW⟩
  have H3 : Hid (c.wh = 3 → ∀ W, Below w.heap.size w W → Calls Try.prog 33 #[.pointer (some ⟨db, 0, none⟩), .string c.nm, .string c.tg] W fun e w' => ∃ q fs' u', e = .returned (.int .i64 q) ∧ DoE w w' B db mb z i c q fs u fs' u') := fun e W hW => (rename_do c hc e (h.below hW) hg hi hz).mono fun _ _ ⟨q, fs', u', e, h⟩ => ⟨q, fs', u', e, h.lift hW⟩
  have H4 : Hid (c.wh = 4 → ∀ W, Below w.heap.size w W → Calls Try.prog 28 #[.pointer (some ⟨db, 0, none⟩), .int .i64 c.n] W fun e w' => e = .returned (.tuple #[]) ∧ ∃ fs' u', DoE w w' B db mb z i c 0 fs u fs' u') := fun e W hW => (crash_do c hc e (h.below hW) hg hi hz).mono fun _ _ ⟨e, fs', u', h⟩ => ⟨e, fs', u', h.lift hW⟩
  have H5 : Hid ((c.wh < 0 ∨ 4 < c.wh) → ∀ W, Below w.heap.size w W → DoE w W B db mb z i c 0 fs u fs u) := fun e W hW => doe_same h hg hW (.inr (.inr (.inr (.inr (.inr (.inr ⟨e, rfl, rfl, rfl⟩))))))
  obtain ⟨A0, c0, e0, _, _, _, _⟩ := hd
  obtain ⟨nd, hnd⟩ : ∃ nd, c.d.length = nd := ⟨_, rfl⟩
  rw [hnd] at e0
  clear h hg hc hi hz hnd
  unfold Cl.v Cl.e
  rw [e0] at H0 ⊢
  obtain ⟨wh, nm, tg, dv, dd, nn⟩ := c
  dsimp only at *
  obtain ⟨DE, hDE⟩ : ∃ DE : Prop, DE = True := ⟨True, rfl⟩
  clear e0 hDE
  by_cases q0 : wh = 0
  · subst q0
    have HC := hid (H0.out rfl)
    clear H0 H1 H2 H3 H4 H5
    go_enter Try.func12, Try.ntmps12
    go_wp2_with (go_at_call 30; (with_reducible refine (HC.out _ (hB _)).mono ?_); rintro e w' ⟨q, fs', u', rfl, hE⟩)
    go_ret
    exact ⟨q, fs', u', rfl, hE⟩
  by_cases q1 : wh = 1
  · subst q1
    have HC := hid (H1.out rfl)
    clear H0 H1 H2 H3 H4 H5 q0
    go_enter Try.func12, Try.ntmps12
    go_wp2_with (go_at_call 31; (with_reducible refine (HC.out _ (hB _)).mono ?_); rintro e w' ⟨q, fs', u', rfl, hE⟩)
    go_ret
    exact ⟨q, fs', u', rfl, hE⟩
  by_cases q2 : wh = 2
  · subst q2
    have HC := hid (H2.out rfl)
    clear H0 H1 H2 H3 H4 H5 q0 q1
    go_enter Try.func12, Try.ntmps12
    go_wp2_with (go_at_call 32; (with_reducible refine (HC.out _ (hB _)).mono ?_); rintro e w' ⟨q, fs', u', rfl, hE⟩)
    go_ret
    exact ⟨q, fs', u', rfl, hE⟩
  by_cases q3 : wh = 3
  · subst q3
    have HC := hid (H3.out rfl)
    clear H0 H1 H2 H3 H4 H5 q0 q1 q2
    go_enter Try.func12, Try.ntmps12
    go_wp2_with (go_at_call 33; (with_reducible refine (HC.out _ (hB _)).mono ?_); rintro e w' ⟨q, fs', u', rfl, hE⟩)
    go_ret
    exact ⟨q, fs', u', rfl, hE⟩
  by_cases q4 : wh = 4
  · subst q4
    have HC := hid (H4.out rfl)
    clear H0 H1 H2 H3 H4 H5 q0 q1 q2 q3
    go_enter Try.func12, Try.ntmps12
    go_wp2_with (go_at_call 28; (with_reducible refine (HC.out _ (hB _)).mono ?_); rintro e w' ⟨rfl, fs', u', hE⟩)
    go_ret
    exact ⟨0, fs', u', rfl, hE⟩
  · have HC := hid (H5.out (by omega) _ (hB (.cells #[.int .i64 wh, .string nm, .string tg, .slice A0 nd c0, .int .i64 nn] 34)))
    clear H0 H1 H2 H3 H4 H5
    go_enter Try.func12, Try.ntmps12
    go_wp2
    go_ret
    exact ⟨0, fs, u, rfl, HC.out⟩
end Go.Proofs.Ytofkfafdodhmdaa
