/- sum.Frame at any bytes: a frame, or nothing where there are too many. Conditions: the slice holds its bytes. -/
import Derived.Test.YtadehoibjpmhhaaDoorSK
namespace Go.Proofs.YtadehoibjpmhhaaDoor
open Go.RowKit

/-- The value is a slice that holds l (nil, or whatever address, where there is nothing). -/
def SlA (w : World) (v : Value) (l : List UInt8) : Prop := ∃ A c, v = .slice A l.length c ∧ l.length ≤ c ∧ c ≤ 9223372036854775807 ∧ (HoldsA w A l ∧ (A = none → c = 0))
theorem SlA.below {w w' : World} {v : Value} {l : List UInt8} (h : SlA w v l) (hb : Below w.heap.size w w') : SlA w' v l := by
  obtain ⟨A, c, h1, h2, h3, h4⟩ := h
  exact ⟨A, c, h1, h2, h3, h4.1.below hb, h4.2⟩
theorem Row.sla {w : World} {B : Nat} {v : Value} {l : List UInt8} (h : Row w B v l) : SlA w v l := by
  by_cases h0 : 0 < l.length
  · obtain ⟨h1, h2⟩ := id h
    obtain ⟨g, cap, e, _, _, h6, h7⟩ := h.form h0
    refine ⟨_, cap, e, h6, ?_, fun _ => ⟨g, 0, rfl, fun i hi => by rw [Nat.zero_add]; exact h7 i hi⟩, fun h => by cases h⟩
    rcases h2 with ⟨_, hz⟩ | ⟨g', cap', cur, e', _, _, _, hm, _⟩
    · omega
    · rw [e] at e'; injection e' with _ _ e3; rw [e3]; unfold maxLen at hm; omega
  · have hl : l = [] := List.eq_nil_of_length_eq_zero (by omega)
    subst hl
    obtain ⟨h1, h2⟩ := h
    rcases h2 with ⟨e, _⟩ | ⟨g', cap', cur, e', _, _, _, hm, _⟩
    · exact ⟨_, 0, e, by simp, by omega, fun h => absurd h (by simp), fun _ => rfl⟩
    · exact ⟨_, cap', e', by simp, by unfold maxLen at hm; omega, fun h => absurd h (by simp), fun h => by cases h⟩

theorem seal_row (w : World) (B : Nat) (hB : B ≤ w.heap.size) (s : Nat) (q1 q2 q3 q4 : Int) (h1 : q1 = ((UInt8.ofNat (s / 16777216 % 256)).toNat : Int)) (h2 : q2 = ((UInt8.ofNat (s / 65536 % 256)).toNat : Int)) (h3 : q3 = ((UInt8.ofNat (s / 256 % 256)).toNat : Int)) (h4 : q4 = ((UInt8.ofNat (s % 256)).toNat : Int)) :
    Row (w.alloc (.cells #[.int .u8 q1, .int .u8 q2, .int .u8 q3, .int .u8 q4] 5)) B (.slice (some ⟨w.heap.size, 0, none⟩) 4 4) (byW 4 s) := by
  subst h1; subst h2; subst h3; subst h4
  have e : byW 4 s = [UInt8.ofNat (s / 16777216 % 256), UInt8.ofNat (s / 65536 % 256), UInt8.ofNat (s / 256 % 256), UInt8.ofNat (s % 256)] := by
    simp only [byW, List.nil_append, List.cons_append]
    simp only [Nat.div_div_eq_div_mul, Nat.reduceMul]
  rw [e]
  exact Row.new w B hB [UInt8.ofNat (s / 16777216 % 256), UInt8.ofNat (s / 65536 % 256), UInt8.ofNat (s / 256 % 256), UInt8.ofNat (s % 256)] (by unfold maxLen; simp)

set_option maxHeartbeats 1000000 in
theorem sealOf_any (v : Value) (l : List UInt8) (hlen : l.length ≤ 1000000) (w : World) (h : SlA w v l) :
    Calls Tryd.prog 77 #[v] w fun e w' => ∃ v', e = .returned v' ∧ Row w' w.heap.size v' (byW 4 (sumN l)) ∧ Below w.heap.size w w' := by
  obtain ⟨A, c, rfl, h2, h3, h4, _⟩ := h
  have HS := hid (sum_any A c l hlen h2 h3 w h4)
  have hlt := sumN_lt l
  obtain ⟨s, hs⟩ : ∃ s, sumN l = s := ⟨_, rfl⟩
  rw [hs] at HS hlt
  rw [hs]
  obtain ⟨S, hS⟩ : ∃ S : Int, (s : Int) = S := ⟨_, rfl⟩
  have HS : Hid (Calls Tryd.prog 44 #[.slice A l.length c] w fun e w' => e = .returned (.int .i64 S) ∧ Below w.heap.size w w') := by rw [← hS]; exact HS.out
  have HE := hid (And.intro hS hlt)
  have s0 : 0 ≤ S := by omega
  clear hs hS hlt h4
  go_enter Tryd.func77, Tryd.ntmps77
  go_wp2_with (go_at_call 44; refine HS.out.mono ?_; rintro e w1 ⟨rfl, hb⟩)
  go_ret
  refine ⟨_, rfl, ?_, hb.trans ((below_new w1 _).mono hb.size)⟩
  refine seal_row w1 w.heap.size hb.size s _ _ _ _ ?_ ?_ ?_ ?_ <;> (have := HE.out; rw [UInt8.toNat_ofNat']; omega)

set_option maxHeartbeats 1000000 in
theorem frame_big (A : Option Addr) (n c : Nat) (hn : 65536 < n) (w : World) :
    Calls Tryd.prog 38 #[.slice A n c] w fun e w' => e = .returned (.tuple #[.slice none 0 0, .bool false]) ∧ w' = w := by
  go_enter Tryd.func38, Tryd.ntmps38
  go_wp2
  go_ret2
  exact ⟨rfl, rfl⟩

/-- Three slices in a new list, in a world behind. -/
theorem c3_new (W : World) (v1 v2 v3 : Value) (l1 l2 l3 : List UInt8) (h1 : SlA W v1 l1) (h2 : SlA W v2 l2) (h3 : SlA W v3 l3) (T : TypeId) :
    ∃ A1 A2 A3 c1 c2 c3, C3 (W.alloc (.cells #[v1, v2, v3] T)) W.heap.size A1 A2 A3 c1 c2 c3 l1 l2 l3 (W.alloc (.cells #[v1, v2, v3] T)) := by
  obtain ⟨A1, c1, rfl, _, _, g1, _⟩ := h1
  obtain ⟨A2, c2, rfl, _, _, g2, _⟩ := h2
  obtain ⟨A3, c3, rfl, _, _, g3, _⟩ := h3
  have hb := below_new W (.cells #[.slice A1 l1.length c1, .slice A2 l2.length c2, .slice A3 l3.length c3] T)
  have hB : Blk (W.alloc (.cells #[.slice A1 l1.length c1, .slice A2 l2.length c2, .slice A3 l3.length c3] T)) W.heap.size T _ := Blk.new W T _
  exact ⟨A1, A2, A3, c1, c2, c3, Below.refl _ _, hB.cell 0, hB.cell 1, hB.cell 2, g1.below hb, g2.below hb, g3.below hb⟩

set_option maxHeartbeats 1000000 in
theorem frame_any (v : Value) (l : List UInt8) (hlen : l.length ≤ 65536) (w : World) (h : SlA w v l) :
    Calls Tryd.prog 38 #[v] w fun e w' => ∃ v', e = .returned (.tuple #[v', .bool true]) ∧ Row w' w.heap.size v' (frameM l) ∧ Below w.heap.size w w' := by
  have HV := hid h
  obtain ⟨A, c, rfl, h2, h3, h4⟩ := h
  obtain ⟨n, hn⟩ : ∃ n, l.length = n := ⟨_, rfl⟩
  have HL := hid hlen
  have HN : Hid (∀ W : World, Calls Tryd.prog 35 #[.int .i64 (n : Int)] W fun e w' => ∃ v, e = .returned v ∧ Row w' W.heap.size v (numW l.length) ∧ Below W.heap.size W w') := fun W => by rw [hn]; exact num_any n (by omega) W
  have HS : Hid (∀ W : World, SlA W (.slice A n c) l → Calls Tryd.prog 77 #[.slice A n c] W fun e w' => ∃ v', e = .returned v' ∧ Row w' W.heap.size v' (byW 4 (sumN l)) ∧ Below W.heap.size W w') := fun W hW => sealOf_any _ l (by omega) W hW
  have HC : Hid (∀ (W : World) (v1 v3 : Value), SlA W v1 (numW l.length) → SlA W (.slice A n c) l → SlA W v3 (byW 4 (sumN l)) → w.heap.size ≤ W.heap.size →
      Calls Tryd.prog 76 #[.slice (some ⟨W.heap.size, 0, none⟩) 3 3] (W.alloc (.cells #[v1, .slice A n c, v3] 29)) fun e w' => ∃ v, e = .returned v ∧ Row w' w.heap.size v (frameM l) ∧ Below w.heap.size (W.alloc (.cells #[v1, .slice A n c, v3] 29)) w') := by
    intro W v1 v3 q1 q2 q3 hs
    obtain ⟨A1, A2, A3, c1, c2, c3, hC⟩ := c3_new W v1 _ v3 _ _ _ q1 q2 q3 29
    have hnl : (numW l.length).length ≤ 9 := numW_len9 _ (by omega)
    refine (concat3 W.heap.size A1 A2 A3 c1 c2 c3 _ _ _ (by rw [byW_len]; omega) _ hC).mono fun e w' ⟨v, he, hR, hb⟩ => ⟨v, he, ?_, hb.mono (by simp; omega)⟩
    exact hR.le (by simp; omega)
  rw [hn]
  rw [hn] at hlen HV
  clear h2 h3 h4 hn
  go_enter Tryd.func38, Tryd.ntmps38
  go_wp2_with (first
    | (go_at_call 35; refine (HN.out _).mono ?_; rintro e w1 ⟨v1, rfl, hR1, hb1⟩; have hS1 := hid hR1.sla; obtain ⟨A1, c1, rfl, _, _, _⟩ := hR1.sla)
    | (go_at_call 77; refine (HS.out _ (HV.out.below hb1)).mono ?_; rintro e w2 ⟨v2, rfl, hR2, hb2⟩; have hS2 := hid hR2.sla; obtain ⟨A2, c2, rfl, _, _, _⟩ := hR2.sla)
    | (go_at_call 76; refine (HC.out w2 _ _ (hS1.out.below hb2) ((HV.out.below hb1).below hb2) hS2.out (Nat.le_trans hb1.size hb2.size)).mono ?_; rintro e w3 ⟨v3, rfl, hR3, hb3⟩))
  go_ret2
  exact ⟨_, rfl, hR3, ((hb1.trans (hb2.mono hb1.size)).alloc (Nat.le_trans hb1.size hb2.size) _).trans hb3⟩
end Go.Proofs.YtadehoibjpmhhaaDoor
