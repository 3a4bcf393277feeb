/- The law SumBits at any bytes and bit: true, and what lay is as it was. Conditions: the slice holds its bytes; the int is one of 64 bits. -/
import Derived.Test.YtadehoibjpmhhaaDoorSQ
namespace Go.Proofs.YtadehoibjpmhhaaDoor
open Go.RowKit

/-- A row of bytes at the beginning of its block, that may be written. -/
def RowAt (w : World) (g : Nat) (l : List UInt8) : Prop := Holds w g 0 l ∧ ∀ i, w.frozen? ⟨g, i, none⟩ = false
theorem Row.at {w : World} {B : Nat} {v : Value} {l : List UInt8} (h : Row w B v l) (h0 : 0 < l.length) : ∃ g c, v = .slice (some ⟨g, 0, Option.none⟩) l.length c ∧ B ≤ g ∧ l.length ≤ c ∧ c ≤ 9223372036854775807 ∧ RowAt w g l := by
  obtain ⟨g, c, e, hB, _, h6, h7⟩ := h.form h0
  obtain ⟨h1, h2⟩ := h
  rcases h2 with ⟨_, hz⟩ | ⟨g', cap', cur, e', _, hh, _, hm, _⟩
  · omega
  · rw [e] at e'
    injection e' with e1 _ e3
    injection e1 with e1
    injection e1 with e1 _
    subst e1; subst e3
    refine ⟨g, c, e, hB, h6, by unfold maxLen at hm; omega, fun i hi => by rw [Nat.zero_add]; exact h7 i hi, fun i => ?_⟩
    simp [World.frozen?, hh]
theorem RowAt.set {w : World} {g : Nat} {l : List UInt8} (h : RowAt w g l) (p : Nat) (hp : p < l.length) (c : UInt8) : Holds (w.setCell ⟨g, p, none⟩ (.int .u8 (c.toNat : Int))) g 0 (l.set p c) := by
  intro i hi
  rw [List.length_set] at hi
  rw [Nat.zero_add]
  have h1 := h.1 p hp
  rw [Nat.zero_add] at h1
  by_cases e : i = p
  · subst e
    rw [World.cell?_setCell_same' _ _ _ (by rw [h1]; rfl)]
    simp [List.getD_eq_getElem?_getD, List.getElem?_set_self hp]
  · rw [World.cell?_setCell_other _ _ _ _ (by intro e'; exact e (by simpa using (congrArg Addr.off e').symm))]
    have h2 := h.1 i hi
    rw [Nat.zero_add] at h2
    rw [h2, List.getD_eq_getElem?_getD, List.getD_eq_getElem?_getD, List.getElem?_set_ne (fun e' => e e'.symm)]
theorem flip_ne (x : UInt8) (q : Nat) (hq : q < 8) : UInt8.ofNat (x.toNat ^^^ 2 ^ q) ≠ x ∧ (UInt8.ofNat (x.toNat ^^^ 2 ^ q)).toNat = x.toNat ^^^ 2 ^ q := by
  have hx := u8_lt x
  have hp : (2 : Nat) ^ q < 2 ^ 8 := Nat.pow_lt_pow_right (by decide) hq
  have h1 : x.toNat ^^^ 2 ^ q < 2 ^ 8 := Nat.xor_lt_two_pow (by omega) hp
  have h2 : (UInt8.ofNat (x.toNat ^^^ 2 ^ q)).toNat = x.toNat ^^^ 2 ^ q := by rw [UInt8.toNat_ofNat']; omega
  refine ⟨fun e => ?_, h2⟩
  rw [e] at h2
  have h3 : (x.toNat ^^^ 2 ^ q).testBit q = !(x.toNat.testBit q) := by rw [Nat.testBit_xor, Nat.testBit_two_pow_self]; simp
  rw [← h2] at h3
  cases hb : x.toNat.testBit q <;> rw [hb] at h3 <;> cases h3

structure BitsHyp (w : World) (A : Option Addr) (m c F k : Nat) (l : List UInt8) : Prop where
  frame : ∀ W, Below w.heap.size w W → Calls Tryd.prog 38 #[.slice A m c] W fun e w' => ∃ g cf, e = .returned (.tuple #[.slice (some ⟨g, 0, none⟩) F cf, .bool true]) ∧ (F ≤ cf ∧ cf ≤ 9223372036854775807 ∧ w.heap.size ≤ g) ∧ Hid (RowAt w' g (frameM l)) ∧ Below W.heap.size W w'
  alive : Calls Tryd.prog 37 #[] w fun e w' => e = .returned (.bool true) ∧ Below w.heap.size w w'
  next : ∀ W g cf (p q : Nat), F ≤ cf → cf ≤ 9223372036854775807 → k ≤ p → p < F → q < 8 → RowAt W g (frameM l) → Calls Tryd.prog 40 #[.slice (some ⟨g, 0, none⟩) F cf] (W.setCell ⟨g, p, none⟩ (.int .u8 ((((frameM l).getD p 0).toNat ^^^ 2 ^ q : Nat) : Int))) fun e w' => e = .returned (.tuple #[.slice none 0 0, .slice none 0 0, .int .i64 2]) ∧ Below W.heap.size (W.setCell ⟨g, p, none⟩ (.int .u8 ((((frameM l).getD p 0).toNat ^^^ 2 ^ q : Nat) : Int))) w'

theorem bits_hyp (A : Option Addr) (c : Nat) (l : List UInt8) (hl : l.length ≤ 3000) (w : World) (h : SlA w (.slice A l.length c) l) : BitsHyp w A l.length c (frameM l).length (numW l.length).length l where
  frame := fun W hW => (frame_any _ l (by omega) W (h.below hW)).mono fun e w' ⟨v, he, hR, hb⟩ => by
    obtain ⟨g, cf, rfl, hB, h2, h3, h4⟩ := hR.at (by rw [frame_len]; omega)
    exact ⟨g, cf, he, ⟨h2, h3, Nat.le_trans hW.size hB⟩, h4, hb⟩
  alive := alive4_any w
  next := fun W g cf p q h2 h3 hkp hpF hq hR => by
    have hF : (frameM l).length ≤ 1000000 := by rw [frame_len]; have := numW_len9 l.length (by omega); omega
    obtain ⟨f1, f2⟩ := flip_ne ((frameM l).getD p 0) q hq
    have hS := hR.set p hpF (UInt8.ofNat (((frameM l).getD p 0).toNat ^^^ 2 ^ q))
    rw [f2] at hS
    have hSl : SlA (W.setCell ⟨g, p, none⟩ (.int .u8 ((((frameM l).getD p 0).toNat ^^^ 2 ^ q : Nat) : Int))) (.slice (some ⟨g, 0, none⟩) (frameM l).length cf) ((frameM l).set p (UInt8.ofNat (((frameM l).getD p 0).toNat ^^^ 2 ^ q))) :=
      ⟨_, cf, by rw [List.length_set], by rw [List.length_set]; exact h2, h3, fun _ => ⟨g, 0, rfl, hS⟩, fun h => by cases h⟩
    have hN := next_any _ _ (by rw [List.length_set]; exact hF) _ hSl
    have hfl := frame_len l
    have hbad := next_turned l (by omega) (p - (numW l.length).length) (by omega) (UInt8.ofNat (((frameM l).getD p 0).toNat ^^^ 2 ^ q)) (by
      intro e
      apply f1
      rw [e]
      have hfr : frameM l = numW l.length ++ (l ++ byW 4 (sumN l)) := by unfold frameM; rw [List.append_assoc]
      rw [List.getD_eq_getElem?_getD, hfr, List.getElem?_append_right (by omega), List.getElem?_eq_getElem (by rw [List.length_append, byW_len]; omega)]
      rfl)
    rw [show (numW l.length).length + (p - (numW l.length).length) = p by omega] at hbad
    rw [hbad] at hN
    refine hN.mono fun e w' ⟨he, hb⟩ => ⟨he, by simpa using hb⟩

set_option maxRecDepth 100000 in
set_option maxHeartbeats 4000000 in
theorem bits_walk (A : Option Addr) (m c F k : Nat) (l : List UInt8) (hm : m ≤ 3000) (hk : (k = 1 ∧ m < 128) ∨ (k = 2 ∧ 128 ≤ m)) (hF : F = k + m + 4) (hFl : F = (frameM l).length) (bit : Int) (b1 : 8 * (k : Int) ≤ bit) (b2 : bit < 8 * (F : Int)) (w : World) (H : BitsHyp w A m c F k l) :
    Calls Tryd.prog 11 #[.slice A m c, .int .i64 bit] w fun e w' => e = .returned (.bool true) ∧ Below w.heap.size w w' := by
  have H := hid H
  have hF1 : (F : Int) - (m : Int) - 4 = (k : Int) := by omega
  obtain ⟨p, hp⟩ : ∃ p : Nat, bit / 8 = (p : Int) := ⟨(bit / 8).toNat, by omega⟩
  obtain ⟨q, hq⟩ : ∃ q : Nat, bit % 8 = (q : Int) := ⟨(bit % 8).toNat, by omega⟩
  have hpF : p < F := by omega
  have hkp : k ≤ p := by omega
  have hq8 : q < 8 := by omega
  have hf5 : ¬ ((F : Int) < (m : Int) + 5) := by omega
  have HFL := hid hFl
  have HX : Hid (bits .xor .u8 ((((frameM l)[p]?.getD 0).toNat : Nat) : Int) (2 ^ q % 256) = ((((frameM l)[p]?.getD 0).toNat ^^^ 2 ^ q : Nat) : Int)) := by
    have hp2 : (2 : Nat) ^ q < 2 ^ 8 := Nat.pow_lt_pow_right (by decide) hq8
    have e : ((2 : Int) ^ q % 256) = ((2 ^ q : Nat) : Int) := by
      have : ((2 : Int) ^ q) = ((2 ^ q : Nat) : Int) := by push_cast; rfl
      rw [this]
      clear this
      generalize (2 : Nat) ^ q = Q at hp2 ⊢
      omega
    unfold Hid
    rw [e, u8_xor_nat _ _ (u8_lt _) (by omega)]
  have HNX : Hid (∀ W g cf, F ≤ cf → cf ≤ 9223372036854775807 → RowAt W g (frameM l) → Calls Tryd.prog 40 #[.slice (some ⟨g, 0, none⟩) F cf] (W.setCell ⟨g, p, none⟩ (.int .u8 ((((frameM l)[p]?.getD 0).toNat ^^^ 2 ^ q : Nat) : Int))) fun e w' => e = .returned (.tuple #[.slice none 0 0, .slice none 0 0, .int .i64 2]) ∧ Below W.heap.size (W.setCell ⟨g, p, none⟩ (.int .u8 ((((frameM l)[p]?.getD 0).toNat ^^^ 2 ^ q : Nat) : Int))) w') := fun W g cf q1 q2 q3 => by
    have := H.out.next W g cf p q q1 q2 hkp hpF hq8 q3
    rwa [List.getD_eq_getElem?_getD] at this
  have hb0 : 0 ≤ bit := by omega
  have hkb : k ≤ 2 := by omega
  have hFb : F ≤ 3006 := by omega
  have hdv : bit.tdiv 8 = (p : Int) := by rw [Int.tdiv_eq_ediv_of_nonneg hb0]; exact hp
  have hmd : bit.tmod 8 = (q : Int) := by rw [Int.tmod_eq_emod_of_nonneg hb0]; exact hq
  have hpb : p ≤ 3006 := by omega
  have hbit : bit ≤ 24048 := by omega
  clear hF hk hFl hp hq
  go_enter Tryd.func11, Tryd.ntmps11
  go_wp2_with (first
    | (go_at_call 37; refine H.out.alive.mono ?_; rintro e w1 ⟨rfl, hb1⟩)
    | (go_at_call 38; refine (H.out.frame _ hb1).mono ?_; rintro e w2 ⟨g, cf, rfl, ⟨hf1, hf2, hg⟩, hR, hb2⟩; have hcell := hR.out.1 p (by rw [← HFL.out]; exact hpF); have hfr := hR.out.2 p; rw [Nat.zero_add] at hcell)
    | (go_at_call 40; rw [HX.out]; refine (HNX.out _ _ _ hf1 hf2 hR.out).mono ?_; rintro e w3 ⟨rfl, hb3⟩))
  go_ret
  have hb12 := hb1.trans (hb2.mono hb1.size)
  exact ⟨rfl, (hb12.setCell (p := ⟨g, p, none⟩) hg _).trans (hb3.mono (Nat.le_trans hb1.size hb2.size))⟩

set_option maxRecDepth 100000 in
set_option maxHeartbeats 1000000 in
theorem bits_long (A : Option Addr) (m c : Nat) (bit : Int) (hm : 3000 < m) (w : World) :
    Calls Tryd.prog 11 #[.slice A m c, .int .i64 bit] w fun e w' => e = .returned (.bool true) ∧ Below w.heap.size w w' := by
  have H := hid (alive4_any w)
  go_enter Tryd.func11, Tryd.ntmps11
  go_wp2_with (go_at_call 37; refine H.out.mono ?_; rintro e w1 ⟨rfl, hb1⟩)
  go_ret
  exact ⟨rfl, hb1⟩

set_option maxRecDepth 100000 in
set_option maxHeartbeats 2000000 in
/-- No bit of the body or the sum. -/
theorem bits_out (A : Option Addr) (m c F k : Nat) (l : List UInt8) (hm : m ≤ 3000) (hkb : k ≤ 2) (hF : F = k + m + 4) (hk1 : 1 ≤ k) (bit : Int) (hbit : bit < 8 * (k : Int) ∨ 8 * (F : Int) ≤ bit) (w : World) (H : BitsHyp w A m c F k l) :
    Calls Tryd.prog 11 #[.slice A m c, .int .i64 bit] w fun e w' => e = .returned (.bool true) ∧ Below w.heap.size w w' := by
  have H := hid H
  have hF1 : (F : Int) - (m : Int) - 4 = (k : Int) := by omega
  have hf5 : ¬ ((F : Int) < (m : Int) + 5) := by omega
  have hFb : F ≤ 3006 := by omega
  clear hF
  rcases hbit with hbit | hbit
  all_goals
    go_enter Tryd.func11, Tryd.ntmps11
    go_wp2_with (first
      | (go_at_call 37; refine H.out.alive.mono ?_; rintro e w1 ⟨rfl, hb1⟩)
      | (go_at_call 38; refine (H.out.frame _ hb1).mono ?_; rintro e w2 ⟨g, cf, rfl, ⟨hf1, hf2, hg⟩, hR, hb2⟩))
    all_goals first
      | (go_ret; exact ⟨rfl, hb1.trans (hb2.mono hb1.size)⟩)
      | (exfalso; omega)

theorem bits_any (v : Value) (l : List UInt8) (bit : Int) (w : World) (h : SlA w v l) (_ : (Lit.int .i64 bit).wf = true) :
    Calls Tryd.prog 11 #[v, .int .i64 bit] w fun e w' => e = .returned (.bool true) ∧ Below w.heap.size w w' := by
  have h' := h
  obtain ⟨A, c, rfl, _⟩ := h'
  by_cases hl : l.length ≤ 3000
  · have H := bits_hyp A c l hl w h
    have hF := frame_len l
    have hk : ((numW l.length).length = 1 ∧ l.length < 128) ∨ ((numW l.length).length = 2 ∧ 128 ≤ l.length) := numW_sizes l.length hl
    by_cases hb : 8 * (((numW l.length).length : Nat) : Int) ≤ bit ∧ bit < 8 * (((frameM l).length : Nat) : Int)
    · exact bits_walk A l.length c (frameM l).length (numW l.length).length l hl hk hF rfl bit hb.1 hb.2 w H
    · exact bits_out A l.length c (frameM l).length (numW l.length).length l hl (by omega) hF (by omega) bit (by omega) w H
  · exact bits_long A l.length c bit (by omega) w
end Go.Proofs.YtadehoibjpmhhaaDoor
