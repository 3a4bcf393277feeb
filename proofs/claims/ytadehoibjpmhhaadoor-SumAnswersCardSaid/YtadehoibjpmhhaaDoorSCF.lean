/- SumAnswers at any bytes. Conditions: the slice holds its bytes. -/
import Derived.Test.YtadehoibjpmhhaaDoorSCE
import Derived.Test.YtadehoibjpmhhaaDoorSP
import Derived.Test.YtadehoibjpmhhaaDoorSY
namespace Go.Proofs.YtadehoibjpmhhaaDoor
open Go.RowKit

theorem allF_rows (n : Nat) : ∀ l : List UInt8, l.length ≤ n → (∀ x ∈ (allF l).1, x.length ≤ n) ∧ (allF l).1.length ≤ l.length := by
  induction n with
  | zero =>
    intro l h
    have : l = [] := List.eq_nil_of_length_eq_zero (by omega)
    subst this
    rw [allF_nil]
    simp
  | succ n ih =>
    intro l h
    by_cases h0 : l = []
    · subst h0
      rw [allF_nil]
      simp
    · cases hn : nextM l with
      | torn => rw [allF_torn hn h0]; simp
      | bad => rw [allF_bad hn h0]; simp
      | whole x r =>
        obtain ⟨j, j1, j2, j3, j4, _⟩ := next_less hn
        have hr := next_len hn
        obtain ⟨i1, i2⟩ := ih r (by omega)
        rw [allF_whole hn]
        refine ⟨fun y hy => ?_, by simp only [List.length_cons]; omega⟩
        rcases List.mem_cons.1 hy with rfl | hy
        · omega
        · have := i1 y hy; omega

def nxX : Nx → List UInt8
  | .whole x _ => x
  | _ => []
def nxR : Nx → List UInt8
  | .whole _ r => r
  | _ => []
def nxQ : Nx → Int
  | .whole _ _ => 0
  | .torn => 1
  | .bad => 2
def NU (w : World) (q : Nx) (e : Ending) (w' : World) : Prop := ∃ v1 v2, e = .returned (.tuple #[v1, v2, .int .i64 (nxQ q)]) ∧ Hid (SlA w' v1 (nxX q)) ∧ Hid (SlA w' v2 (nxR q)) ∧ Below w.heap.size w w'
theorem nu_nx {w w' : World} {q : Nx} {e : Ending} (h : NxEnd w q e w') : NU w q e w' := by
  cases q with
  | whole x r => obtain ⟨v1, v2, rfl, h1, h2, hb⟩ := h; exact ⟨v1, v2, rfl, h1, h2, hb⟩
  | torn => obtain ⟨rfl, hb⟩ := h; exact ⟨_, _, rfl, sla_nil _, sla_nil _, hb⟩
  | bad => obtain ⟨rfl, hb⟩ := h; exact ⟨_, _, rfl, sla_nil _, sla_nil _, hb⟩
theorem nu_rx {w w' : World} {q : Nx} {e : Ending} (h : RxEnd w q e w') : NU w q e w' := by
  cases q with
  | whole x r => obtain ⟨v1, v2, rfl, h1, h2, hb⟩ := h; exact ⟨v1, v2, rfl, h1.sla, h2.sla, hb⟩
  | torn => obtain ⟨rfl, hb⟩ := h; exact ⟨_, _, rfl, sla_nil _, sla_nil _, hb⟩
  | bad => obtain ⟨rfl, hb⟩ := h; exact ⟨_, _, rfl, sla_nil _, sla_nil _, hb⟩

/-- What the law's last line walks by. -/
structure AnsEnd (w : World) (s : Int) (vb vo vf vg vx vy vr vm vl vk : Value) : Prop where
  s1 : ∀ W, Below w.heap.size w W → Calls Tryd.prog 44 #[vo] W fun e w' => e = .returned (.int .i64 s) ∧ Below W.heap.size W w'
  s2 : ∀ W, Below w.heap.size w W → Calls Tryd.prog 45 #[vb] W fun e w' => e = .returned (.int .i64 s) ∧ w' = W
  b1 : ∀ W, Below w.heap.size w W → Calls Tryd.prog 24 #[vf, vg] W fun e w' => e = .returned (.bool true) ∧ Below W.heap.size W w'
  b2 : ∀ W, Below w.heap.size w W → Calls Tryd.prog 24 #[vx, vy] W fun e w' => e = .returned (.bool true) ∧ Below W.heap.size W w'
  b3 : ∀ W, Below w.heap.size w W → Calls Tryd.prog 24 #[vr, vm] W fun e w' => e = .returned (.bool true) ∧ Below W.heap.size W w'
  ls : ∀ W, Below w.heap.size w W → Calls Tryd.prog 32 #[vl, vk] W fun e w' => e = .returned (.bool true) ∧ Below W.heap.size W w'
  b4 : ∀ W, Below w.heap.size w W → Calls Tryd.prog 24 #[vo, vb] W fun e w' => e = .returned (.bool true) ∧ Below W.heap.size W w'
theorem same_self (v1 v2 : Value) (l : List UInt8) (hl : l.length ≤ 1000000) (w : World) (h1 : SlA w v1 l) (h2 : SlA w v2 l) :
    Calls Tryd.prog 24 #[v1, v2] w fun e w' => e = .returned (.bool true) ∧ Below w.heap.size w w' := by
  have := same_sla v1 v2 l l hl w h1 h2
  rwa [decide_eq_true (rfl : l = l)] at this

/-- What the law walks by. -/
structure AnsHyp (w : World) (vb : Value) (l F X R : List UInt8) (L : List (List UInt8)) (q N E s : Int) : Prop where
  alive : Calls Tryd.prog 37 #[] w fun e w' => e = .returned (.bool true) ∧ Below w.heap.size w w'
  frame : ∀ W, Below w.heap.size w W → Calls Tryd.prog 38 #[vb] W fun e w' => ∃ v', e = .returned (.tuple #[v', .bool true]) ∧ Hid (SlA w' v' F) ∧ Below W.heap.size W w'
  copy : ∀ W, Below w.heap.size w W → Calls Tryd.prog 25 #[vb] W fun e w' => ∃ v', e = .returned v' ∧ Hid (SlA w' v' l) ∧ Below W.heap.size W w'
  rframe : ∀ W, Below w.heap.size w W → Calls Tryd.prog 39 #[vb] W fun e w' => ∃ v', e = .returned (.tuple #[v', .bool true]) ∧ Hid (SlA w' v' F) ∧ Below W.heap.size W w'
  next : ∀ W u, SlA W u l → Calls Tryd.prog 40 #[u] W fun e w' => ∃ v1 v2, e = .returned (.tuple #[v1, v2, .int .i64 q]) ∧ Hid (SlA w' v1 X) ∧ Hid (SlA w' v2 R) ∧ Below W.heap.size W w'
  rnext : ∀ W, Below w.heap.size w W → Calls Tryd.prog 41 #[vb] W fun e w' => ∃ v1 v2, e = .returned (.tuple #[v1, v2, .int .i64 q]) ∧ Hid (SlA w' v1 X) ∧ Hid (SlA w' v2 R) ∧ Below W.heap.size W w'
  all : ∀ W u, SlA W u l → Calls Tryd.prog 42 #[u] W fun e w' => ∃ v, e = .returned (.tuple #[v, .int .i64 N, .int .i64 E]) ∧ Hid (LsB w' v L) ∧ Below W.heap.size W w'
  fin : ∀ W vo vf vg vx vy vr vm vl vk, Below w.heap.size w W → SlA W vo l → SlA W vf F → SlA W vg F → SlA W vx X → SlA W vy X → SlA W vr R → SlA W vm R → LsB W vl L → LsB W vk L → AnsEnd W s vb vo vf vg vx vy vr vm vl vk
  rall : ∀ W, Below w.heap.size w W → Calls Tryd.prog 43 #[vb] W fun e w' => ∃ v, e = .returned (.tuple #[v, .int .i64 N, .int .i64 E]) ∧ Hid (LsB w' v L) ∧ Below W.heap.size W w'

set_option maxRecDepth 100000 in
set_option maxHeartbeats 4000000 in
theorem answers_walk (A : Option Addr) (m c : Nat) (hm : m ≤ 4000) (l F X R : List UInt8) (L : List (List UInt8)) (q N E s : Int) (w : World) (H : AnsHyp w (.slice A m c) l F X R L q N E s) :
    Calls Tryd.prog 9 #[.slice A m c] w fun e w' => e = .returned (.bool true) ∧ Below w.heap.size w w' := by
  have H := hid H
  go_enter Tryd.func9, Tryd.ntmps9
  go_wp2_with (first
    | (go_at_call 37; refine H.out.alive.mono ?_; rintro e w1 ⟨rfl, hb1⟩)
    | (go_at_call 38; refine (H.out.frame _ hb1).mono ?_; rintro e w2 ⟨vf, rfl, hF, hb2⟩; have hc2 := hb1.trans (hb2.mono hb1.size))
    | (go_at_call 25; refine (H.out.copy _ hc2).mono ?_; rintro e w3 ⟨vo, rfl, hO, hb3⟩; have hc3 := hc2.trans (hb3.mono hc2.size))
    | (go_at_call 39; refine (H.out.rframe _ hc3).mono ?_; rintro e w4 ⟨vg, rfl, hG, hb4⟩; have hc4 := hc3.trans (hb4.mono hc3.size))
    | (go_at_call 40; refine (H.out.next _ _ (hO.out.below hb4)).mono ?_; rintro e w5 ⟨vx, vr, rfl, hX, hR, hb5⟩; have hc5 := hc4.trans (hb5.mono hc4.size))
    | (go_at_call 41; refine (H.out.rnext _ hc5).mono ?_; rintro e w6 ⟨vy, vm, rfl, hY, hM, hb6⟩; have hc6 := hc5.trans (hb6.mono hc5.size))
    | (go_at_call 42; refine (H.out.all _ _ ((hO.out.below hb4).below ((hb5.trans (hb6.mono hb5.size))))).mono ?_; rintro e w7 ⟨vl, rfl, hL, hb7⟩; have hc7 := hc6.trans (hb7.mono hc6.size))
    | (go_at_call 43; refine (H.out.rall _ hc7).mono ?_; rintro e w8 ⟨vk, rfl, hK, hb8⟩; have hc8 := hc7.trans (hb8.mono hc7.size); have e7 := hb7.trans (hb8.mono hb7.size); have e6 := hb6.trans (e7.mono hb6.size); have e5 := hb5.trans (e6.mono hb5.size); have e4 := hb4.trans (e5.mono hb4.size); have e3 := hb3.trans (e4.mono hb3.size); have HZ := hid (H.out.fin w8 vo vf vg vx vy vr vm vl vk hc8 (hO.out.below e4) (hF.out.below e3) (hG.out.below e5) (hX.out.below e6) (hY.out.below e7) (hR.out.below e6) (hM.out.below e7) (hL.out.below hb8) hK.out))
    | (go_at_call 44; refine (HZ.out.s1 _ (Below.refl _ _)).mono ?_; rintro e w9 ⟨rfl, g1⟩)
    | (go_at_call 45; refine (HZ.out.s2 _ g1).mono ?_; rintro e w9 ⟨rfl, rfl⟩)
    | (go_at_call 24; with_reducible refine (HZ.out.b1 _ g1).mono ?_; rintro e w10 ⟨rfl, gg⟩; have g2 := g1.trans (gg.mono g1.size))
    | (go_at_call 24; with_reducible refine (HZ.out.b2 _ g2).mono ?_; rintro e w11 ⟨rfl, gg⟩; have g3 := g2.trans (gg.mono g2.size))
    | (go_at_call 24; with_reducible refine (HZ.out.b3 _ g3).mono ?_; rintro e w12 ⟨rfl, gg⟩; have g4 := g3.trans (gg.mono g3.size))
    | (go_at_call 32; with_reducible refine (HZ.out.ls _ g4).mono ?_; rintro e w13 ⟨rfl, gg⟩; have g5 := g4.trans (gg.mono g4.size))
    | (go_at_call 24; with_reducible refine (HZ.out.b4 _ g5).mono ?_; rintro e w14 ⟨rfl, gg⟩; have g6 := g5.trans (gg.mono g5.size)))
  go_ret
  exact ⟨rfl, hc8.trans (g6.mono hc8.size)⟩

set_option maxRecDepth 100000 in
set_option maxHeartbeats 1000000 in
theorem answers_mid (A : Option Addr) (m c : Nat) (h1 : 4000 < m) (h2 : m ≤ 65536) (w : World) :
    Calls Tryd.prog 9 #[.slice A m c] w fun e w' => e = .returned (.bool true) ∧ Below w.heap.size w w' := by
  have H := hid (alive4_any w)
  go_enter Tryd.func9, Tryd.ntmps9
  go_wp2_with (go_at_call 37; refine H.out.mono ?_; rintro e w1 ⟨rfl, hb1⟩)
  go_ret
  exact ⟨rfl, hb1⟩

set_option maxRecDepth 100000 in
set_option maxHeartbeats 1000000 in
theorem answers_big (A : Option Addr) (m c : Nat) (h1 : 65536 < m) (w : World) :
    Calls Tryd.prog 9 #[.slice A m c] w fun e w' => e = .returned (.bool true) ∧ Below w.heap.size w w' := by
  have H := hid (alive4_any w)
  have HF : Hid (∀ W, Calls Tryd.prog 38 #[.slice A m c] W fun e w' => e = .returned (.tuple #[.slice none 0 0, .bool false]) ∧ w' = W) := fun W => frame_big A m c h1 W
  go_enter Tryd.func9, Tryd.ntmps9
  go_wp2_with (first
    | (go_at_call 37; refine H.out.mono ?_; rintro e w1 ⟨rfl, hb1⟩)
    | (go_at_call 38; refine (HF.out _).mono ?_; rintro e w2 ⟨rfl, rfl⟩))
  go_ret
  exact ⟨rfl, hb1⟩

theorem answers_hyp (A : Option Addr) (c : Nat) (l : List UInt8) (hl : l.length ≤ 4000) (w : World) (h : SlA w (.slice A l.length c) l) :
    AnsHyp w (.slice A l.length c) l (frameM l) (nxX (nextM l)) (nxR (nextM l)) (allF l).1 (nxQ (nextM l)) ((allF l).2.1 : Int) ((allF l).2.2 : Int) ((sumN l : Nat) : Int) where
  alive := alive4_any w
  frame := fun W hW => (frame_any _ l (by omega) W (h.below hW)).mono fun e w' ⟨v, he, hR, hb⟩ => ⟨v, he, hR.sla, hb⟩
  copy := fun W hW => (copy_any _ l (by omega) W (h.below hW)).mono fun e w' ⟨v, he, hR, hb⟩ => ⟨v, he, hR.sla, hb⟩
  rframe := fun W hW => (refFrame_any _ l (by omega) W (h.below hW)).mono fun e w' ⟨v, he, hR, hb⟩ => ⟨v, he, hR.sla, hb⟩
  next := fun W u hu => (next_any u l (by omega) W hu).mono fun e w' hh => nu_nx hh
  rnext := fun W hW => (refNext_any _ l (by omega) W (h.below hW)).mono fun e w' hh => nu_rx hh
  all := fun W u hu => (all_any u l (by omega) W hu).mono fun e w' ⟨v, he, hR, hb⟩ => ⟨v, he, hR.lsb, hb⟩
  rall := fun W hW => (refAll_any _ l (by omega) W (h.below hW)).mono fun e w' ⟨v, he, hR, hb⟩ => ⟨v, he, hR.lsb, hb⟩
  fin := fun W vo vf vg vx vy vr vm vl vk hW ho hf hg hx hy hr hm hL hK => by
    have hFl : (frameM l).length ≤ 1000000 := by rw [frame_len]; have := numW_len9 l.length (by omega); omega
    have hXR : (nxX (nextM l)).length ≤ 1000000 ∧ (nxR (nextM l)).length ≤ 1000000 := by
      cases hn : nextM l with
      | torn => simp [nxX, nxR]
      | bad => simp [nxX, nxR]
      | whole x r =>
        obtain ⟨j, j1, j2, j3, j4, _⟩ := next_less hn
        have := next_len hn
        simp only [nxX, nxR]
        omega
    have hrows := allF_rows 4000 l hl
    exact {
      s1 := fun V hV => by
        obtain ⟨A', c', rfl, q2, q3, q4, _⟩ := ho.below hV
        exact sum_any A' c' l (by omega) q2 q3 V q4
      s2 := fun V hV => refSum_any _ l (by omega) V ((h.below hW).below hV)
      b1 := fun V hV => same_self _ _ _ hFl V (hf.below hV) (hg.below hV)
      b2 := fun V hV => same_self _ _ _ hXR.1 V (hx.below hV) (hy.below hV)
      b3 := fun V hV => same_self _ _ _ hXR.2 V (hr.below hV) (hm.below hV)
      ls := fun V hV => lists_same _ _ _ (fun x hx => by have := hrows.1 x hx; omega) (by omega) V (hL.below hV) (hK.below hV)
      b4 := fun V hV => same_self _ _ l (by omega) V (ho.below hV) ((h.below hW).below hV) }

theorem answers_any (v : Value) (l : List UInt8) (w : World) (h : SlA w v l) :
    Calls Tryd.prog 9 #[v] w fun e w' => e = .returned (.bool true) ∧ Below w.heap.size w w' := by
  have h' := h
  obtain ⟨A, c, rfl, _⟩ := h'
  by_cases h1 : l.length ≤ 4000
  · exact answers_walk A l.length c h1 l _ _ _ _ _ _ _ _ w (answers_hyp A c l h1 w h)
  · by_cases h2 : l.length ≤ 65536
    · exact answers_mid A l.length c (by omega) h2 w
    · exact answers_big A l.length c (by omega) w
end Go.Proofs.YtadehoibjpmhhaaDoor
