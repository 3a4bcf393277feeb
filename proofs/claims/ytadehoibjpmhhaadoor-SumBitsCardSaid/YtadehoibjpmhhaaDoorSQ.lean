/- The law SumSizes at any bytes: true, and what lay is as it was. Conditions: the slice holds its bytes. -/
import Derived.Test.YtadehoibjpmhhaaDoorSP
namespace Go.Proofs.YtadehoibjpmhhaaDoor
open Go.RowKit

theorem numW_sizes (m : Nat) (h : m ≤ 3000) : ((numW m).length = 1 ∧ m < 128) ∨ ((numW m).length = 2 ∧ 128 ≤ m) := by
  by_cases h1 : m < 128
  · exact .inl ⟨by rw [numW_small h1]; rfl, h1⟩
  · refine .inr ⟨?_, by omega⟩
    rw [numW_big h1, numW_small (by omega)]
    rfl
theorem frame_some {w : World} {v : Value} {l : List UInt8} (h : SlA w v (frameM l)) : ∃ g o c, v = .slice (some ⟨g, o, none⟩) (frameM l).length c ∧ (frameM l).length ≤ c ∧ c ≤ 9223372036854775807 ∧ Holds w g o (frameM l) := by
  obtain ⟨A, c, rfl, h2, h3, h4, _⟩ := h
  have : 0 < (frameM l).length := by rw [frame_len]; omega
  obtain ⟨g, o, rfl, hh⟩ := h4 this
  exact ⟨g, o, c, rfl, h2, h3, hh⟩
theorem frame_part (l : List UInt8) : ((frameM l).drop (numW l.length).length).take l.length = l := by
  unfold frameM
  rw [List.append_assoc, List.drop_left, List.take_left]

structure SizesHyp (w : World) (A : Option Addr) (m c F k : Nat) (l : List UInt8) : Prop where
  frame : ∀ W, Below w.heap.size w W → Calls Tryd.prog 38 #[.slice A m c] W fun e w' => ∃ g o cf, e = .returned (.tuple #[.slice (some ⟨g, o, none⟩) F cf, .bool true]) ∧ (F ≤ cf ∧ cf ≤ 9223372036854775807) ∧ Hid (SlA w' (.slice (some ⟨g, o, none⟩) F cf) (frameM l)) ∧ Below W.heap.size W w'
  next : ∀ W g o cf, SlA W (.slice (some ⟨g, o, none⟩) F cf) (frameM l) → Calls Tryd.prog 40 #[.slice (some ⟨g, o, none⟩) F cf] W fun e w' => ∃ A1 c1 A2 c2, e = .returned (.tuple #[.slice A1 m c1, .slice A2 0 c2, .int .i64 0]) ∧ Hid (SlA w' (.slice A1 m c1) l) ∧ Below W.heap.size W w'
  same1 : ∀ W g o cf, Below w.heap.size w W → SlA W (.slice (some ⟨g, o, none⟩) F cf) (frameM l) → Calls Tryd.prog 24 #[.slice (some ⟨g, o + k, none⟩) m (cf - k), .slice A m c] W fun e w' => e = .returned (.bool true) ∧ Below W.heap.size W w'
  same2 : ∀ W A1 c1, Below w.heap.size w W → SlA W (.slice A1 m c1) l → Calls Tryd.prog 24 #[.slice A1 m c1, .slice A m c] W fun e w' => e = .returned (.bool true) ∧ Below W.heap.size W w'
  alive : Calls Tryd.prog 37 #[] w fun e w' => e = .returned (.bool true) ∧ Below w.heap.size w w'

theorem sizes_hyp (A : Option Addr) (c : Nat) (l : List UInt8) (hl : l.length ≤ 3000) (w : World) (h : SlA w (.slice A l.length c) l) : SizesHyp w A l.length c (frameM l).length (numW l.length).length l where
  frame := fun W hW => (frame_any _ l (by omega) W (h.below hW)).mono fun e w' ⟨v, he, hR, hb⟩ => by
    obtain ⟨g, o, cf, rfl, h2, h3, _⟩ := frame_some hR.sla
    exact ⟨g, o, cf, he, ⟨h2, h3⟩, hR.sla, hb⟩
  next := fun W g o cf hW => by
    have hF : (frameM l).length ≤ 1000000 := by rw [frame_len]; have := numW_len9 l.length (by omega); omega
    have := next_any _ (frameM l) hF W hW
    have hn := next_frame l [] (by omega)
    rw [List.append_nil] at hn
    rw [hn] at this
    refine this.mono ?_
    rintro e w' ⟨v1, v2, rfl, h1, h2, hb⟩
    obtain ⟨A1, c1, rfl, hx1⟩ := h1
    obtain ⟨A2, c2, rfl, hx2⟩ := h2
    exact ⟨A1, c1, A2, c2, rfl, ⟨A1, c1, rfl, hx1⟩, hb⟩
  same1 := fun W g o cf hW hf => by
    obtain ⟨g', o', cf', e, h2, h3, hh⟩ := frame_some hf
    injection e with e1 _ e3
    injection e1 with e1
    injection e1 with e1 e2
    subst e1; subst e2; subst e3
    have q := sla_part h2 h3 hh (numW l.length).length l.length (by rw [frame_len]; omega)
    rw [frame_part] at q
    have := same_sla _ _ l l (by omega) W q (h.below hW)
    rw [decide_eq_true rfl] at this
    exact this
  same2 := fun W A1 c1 hW h1 => by
    have := same_sla _ _ l l (by omega) W h1 (h.below hW)
    rw [decide_eq_true rfl] at this
    exact this
  alive := alive4_any w

set_option maxRecDepth 100000 in
set_option maxHeartbeats 4000000 in
theorem sizes_walk (A : Option Addr) (m c F k : Nat) (l : List UInt8) (hm : m ≤ 3000) (hk : (k = 1 ∧ m < 128) ∨ (k = 2 ∧ 128 ≤ m)) (hF : F = k + m + 4) (w : World) (H : SizesHyp w A m c F k l) :
    Calls Tryd.prog 13 #[.slice A m c] w fun e w' => e = .returned (.bool true) ∧ Below w.heap.size w w' := by
  have H := hid H
  have hF1 : (F : Int) - (m : Int) - 4 = (k : Int) := by omega
  have hFF : k + m ≤ F := by omega
  have E1 : Hid (((k : Int) + m).toNat - k = m) := by unfold Hid; omega
  clear hF
  rcases hk with ⟨rfl, hm2⟩ | ⟨rfl, hm2⟩
  all_goals
    go_enter Tryd.func13, Tryd.ntmps13
    go_wp2_with (first
      | (go_at_call 37; refine H.out.alive.mono ?_; rintro e w1 ⟨rfl, hb1⟩)
      | (go_at_call 38; refine (H.out.frame _ hb1).mono ?_; rintro e w2 ⟨g, o, cf, rfl, ⟨hf1, hf2⟩, hS, hb2⟩)
      | (go_at_call 40; refine (H.out.next _ _ _ _ hS.out).mono ?_; rintro e w3 ⟨A1, c1, A2, c2, rfl, hS3, hb3⟩)
      | (go_at_call 24; ((with_reducible refine (H.out.same1 _ _ _ _ ?_ (hS.out.below hb3)).mono ?_); (exact (hb1.trans (hb2.mono hb1.size)).trans (hb3.mono (Nat.le_trans hb1.size hb2.size))); rintro e w4 ⟨rfl, hb4⟩; have hB4 := hid (((hb1.trans (hb2.mono hb1.size)).trans (hb3.mono (Nat.le_trans hb1.size hb2.size))).trans (hb4.mono (Nat.le_trans (Nat.le_trans hb1.size hb2.size) hb3.size)))))
      | (go_at_call 24; ((with_reducible refine (H.out.same2 _ _ _ hB4.out (hS3.out.below hb4)).mono ?_); rintro e w5 ⟨rfl, hb5⟩)))
    all_goals first
      | (go_ret; exact ⟨rfl, hB4.out.trans (hb5.mono hB4.out.size)⟩)
      | (exfalso; rename_i hbad; simp at hbad; omega)

set_option maxHeartbeats 1000000 in
theorem sizes_long (A : Option Addr) (m c : Nat) (hm : 3000 < m) (w : World) :
    Calls Tryd.prog 13 #[.slice A m c] w fun e w' => e = .returned (.bool true) ∧ Below w.heap.size w w' := by
  have H := hid (alive4_any w)
  go_enter Tryd.func13, Tryd.ntmps13
  go_wp2_with (go_at_call 37; refine H.out.mono ?_; rintro e w1 ⟨rfl, hb1⟩)
  go_ret
  exact ⟨rfl, hb1⟩

theorem sizes_any (v : Value) (l : List UInt8) (w : World) (h : SlA w v l) :
    Calls Tryd.prog 13 #[v] w fun e w' => e = .returned (.bool true) ∧ Below w.heap.size w w' := by
  have h' := h
  obtain ⟨A, c, rfl, _⟩ := h'
  by_cases hl : l.length ≤ 3000
  · refine sizes_walk A l.length c (frameM l).length (numW l.length).length l hl ?_ (by rw [frame_len]) w (sizes_hyp A c l hl w h)
    rcases numW_sizes l.length hl with ⟨h1, h2⟩ | ⟨h1, h2⟩
    · exact .inl ⟨h1, h2⟩
    · exact .inr ⟨h1, h2⟩
  · exact sizes_long A l.length c (by omega) w
end Go.Proofs.YtadehoibjpmhhaaDoor
