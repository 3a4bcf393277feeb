/- The reader's two bytes of nothing and its time, at any bytes. Conditions: the reader holds the bytes. -/
import Derived.Test.YtegdkcldgepngaaDoorCN
import Derived.Test.YtegdkcldgepngaaDoorMA
import Derived.Deep.RegionHeld3
namespace Go.Proofs.YtegdkcldgepngaaDoor
open Go.RowKit

def SkEnd (w : World) (rb : Nat) (l : List UInt8) (e : Ending) (w' : World) : Prop :=
  (∃ r, l = 0 :: 0 :: r ∧ e = .returned (.bool true) ∧ St w' rb r ∧ But w.heap.size rb w w') ∨ ((∀ r, l ≠ 0 :: 0 :: r) ∧ e = .returned (.bool false) ∧ St w' rb l ∧ But w.heap.size rb w w')

set_option maxRecDepth 100000 in
set_option maxHeartbeats 2000000 in
theorem skip_short (rb m c : Nat) (A : Option Addr) (hm : m < 2) (w : World) (h0 : w.cell? ⟨rb, 0, none⟩ = some (.slice A m c)) :
    Calls Tryd.prog 78 #[.pointer (some ⟨rb, 0, none⟩), .int .u8 0, .int .u8 0] w fun e w' => e = .returned (.bool false) ∧ w = w' := by
  go_enter Tryd.func78, Tryd.ntmps78
  go_wp2
  go_ret
  exact ⟨rfl, rfl⟩

set_option maxRecDepth 100000 in
set_option maxHeartbeats 2000000 in
theorem skip_one (rb b off m c x : Nat) (hm : 2 ≤ m) (_hmc : m ≤ c) (_hc : c ≤ 9223372036854775807) (hx : ¬ x = 0) (w : World) (h0 : w.cell? ⟨rb, 0, none⟩ = some (.slice (some ⟨b, off, none⟩) m c)) (h1 : w.cell? ⟨b, off, none⟩ = some (.int .u8 (x : Int))) :
    Calls Tryd.prog 78 #[.pointer (some ⟨rb, 0, none⟩), .int .u8 0, .int .u8 0] w fun e w' => e = .returned (.bool false) ∧ w = w' := by
  have q0 : ((x : Int) == 0) = false := by simp; omega
  have q1 : ((x : Int) != 0) = true := by simp; omega
  go_enter Tryd.func78, Tryd.ntmps78
  go_wp2
  go_ret
  exact ⟨rfl, rfl⟩

set_option maxRecDepth 100000 in
set_option maxHeartbeats 2000000 in
theorem skip_two (rb b off m c y : Nat) (hm : 2 ≤ m) (_hmc : m ≤ c) (_hc : c ≤ 9223372036854775807) (hy : ¬ y = 0) (w : World) (h0 : w.cell? ⟨rb, 0, none⟩ = some (.slice (some ⟨b, off, none⟩) m c)) (h1 : w.cell? ⟨b, off, none⟩ = some (.int .u8 0)) (h2 : w.cell? ⟨b, off + 1, none⟩ = some (.int .u8 (y : Int))) :
    Calls Tryd.prog 78 #[.pointer (some ⟨rb, 0, none⟩), .int .u8 0, .int .u8 0] w fun e w' => e = .returned (.bool false) ∧ w = w' := by
  have q0 : ((y : Int) == 0) = false := by simp; omega
  have q1 : ((y : Int) != 0) = true := by simp; omega
  go_enter Tryd.func78, Tryd.ntmps78
  go_wp2
  go_ret
  exact ⟨rfl, rfl⟩

set_option maxRecDepth 100000 in
set_option maxHeartbeats 2000000 in
theorem skip_in (rb b off m c : Nat) (hm : 2 ≤ m) (_hmc : m ≤ c) (hc2 : 2 < c) (hc : c ≤ 9223372036854775807) (_hne : b ≠ rb) (w : World) (h0 : w.cell? ⟨rb, 0, none⟩ = some (.slice (some ⟨b, off, none⟩) m c)) (hf : w.frozen? ⟨rb, 0, none⟩ = false) (h1 : w.cell? ⟨b, off, none⟩ = some (.int .u8 0)) (h2 : w.cell? ⟨b, off + 1, none⟩ = some (.int .u8 0)) :
    Calls Tryd.prog 78 #[.pointer (some ⟨rb, 0, none⟩), .int .u8 0, .int .u8 0] w fun e w' => e = .returned (.bool true) ∧ w' = w.setCell ⟨rb, 0, none⟩ (.slice (some ⟨b, off + 2, none⟩) (m - 2) (c - 2)) := by
  go_enter Tryd.func78, Tryd.ntmps78
  go_wp2
  go_ret
  exact ⟨rfl, rfl⟩

set_option maxRecDepth 100000 in
set_option maxHeartbeats 2000000 in
theorem skip_all (rb b off : Nat) (_hne : b ≠ rb) (w : World) (h0 : w.cell? ⟨rb, 0, none⟩ = some (.slice (some ⟨b, off, none⟩) 2 2)) (hf : w.frozen? ⟨rb, 0, none⟩ = false) (h1 : w.cell? ⟨b, off, none⟩ = some (.int .u8 0)) (h2 : w.cell? ⟨b, off + 1, none⟩ = some (.int .u8 0)) :
    Calls Tryd.prog 78 #[.pointer (some ⟨rb, 0, none⟩), .int .u8 0, .int .u8 0] w fun e w' => e = .returned (.bool true) ∧ w' = w.setCell ⟨rb, 0, none⟩ (.slice (some ⟨b, off, none⟩) 0 0) := by
  go_enter Tryd.func78, Tryd.ntmps78
  go_wp2
  go_ret
  exact ⟨rfl, rfl⟩

theorem skip_any (rb : Nat) (l : List UInt8) (w : World) (h : St w rb l) :
    Calls Tryd.prog 78 #[.pointer (some ⟨rb, 0, none⟩), .int .u8 0, .int .u8 0] w (SkEnd w rb l) := by
  have hS := h
  obtain ⟨⟨v, h0, A, c, rfl, h2, h3, h4⟩, hf, hlt⟩ := h
  by_cases hs : l.length < 2
  · refine (skip_short rb l.length c A hs w h0).mono fun e w' ⟨he, hw⟩ => .inr ⟨fun r e => (by have := congrArg List.length e; simp at this; omega), he, by rw [← hw]; exact hS, by rw [← hw]; exact But.refl _ _ _⟩
  · match l, h0, h2, h4, hs, hS with
    | [], _, _, _, hs, _ => exact absurd (by simp) hs
    | [x], _, _, _, hs, _ => exact absurd (by simp) hs
    | x :: y :: t, h0, h2, h4, hs, hS =>
      obtain ⟨b, off, rfl, hb, hh⟩ := h4 (by simp)
      have hx := hh 0 (by simp)
      have hy := hh 1 (by simp)
      simp at hx hy
      by_cases zx : x = 0
      · subst zx
        by_cases zy : y = 0
        · subst zy
          have hB : But w.heap.size rb w (w.setCell ⟨rb, 0, none⟩ (restV b off (0 :: 0 :: t).length c 2)) := (But.refl _ _ _).setCell _ _
          have hR := (rd_rest (w := w) (rb := rb) (k := 2) (l := 0 :: 0 :: t) (by simp) h2 h3 hb hh).below (hB.low hlt)
          have fin : SkEnd w rb (0 :: 0 :: t) (.returned (.bool true)) (w.setCell ⟨rb, 0, none⟩ (restV b off (0 :: 0 :: t).length c 2)) :=
            .inl ⟨t, rfl, rfl, ⟨⟨_, cell_set_rb h0 _, hR⟩, by rw [World.frozen?_setCell]; exact hf, Nat.lt_of_lt_of_le hlt hB.size⟩, hB⟩
          unfold restV at fin
          by_cases hc2 : 2 < c
          · rw [if_pos hc2] at fin
            exact (skip_in rb b off (0 :: 0 :: t).length c (by simp) h2 hc2 h3 (by omega) w h0 hf hx hy).mono fun e w' ⟨he, hw⟩ => by rw [he, hw]; exact fin
          · rw [if_neg hc2] at fin
            have e0 : (0 :: 0 :: t : List UInt8).length = t.length + 2 := rfl
            have e1 : c = 2 := by omega
            have e2 : (0 :: 0 :: t : List UInt8).length = 2 := by omega
            subst e1
            rw [e2] at h0
            exact (skip_all rb b off (by omega) w h0 hf hx hy).mono fun e w' ⟨he, hw⟩ => by rw [he, hw]; exact fin
        · refine (skip_two rb b off (0 :: y :: t).length c y.toNat (by simp) h2 h3 (fun e => zy (UInt8.toNat_inj.1 e)) w h0 hx hy).mono fun e w' ⟨he, hw⟩ => .inr ⟨fun r e => ?_, he, by rw [← hw]; exact hS, by rw [← hw]; exact But.refl _ _ _⟩
          injection e with _ e; injection e with e _; exact zy e
      · refine (skip_one rb b off (x :: y :: t).length c x.toNat (by simp) h2 h3 (fun e => zx (UInt8.toNat_inj.1 e)) w h0 hx).mono fun e w' ⟨he, hw⟩ => .inr ⟨fun r e => ?_, he, by rw [← hw]; exact hS, by rw [← hw]; exact But.refl _ _ _⟩
        injection e with e _; exact zx e

def TmEnd (w : World) (rb : Nat) (l : List UInt8) (e : Ending) (w' : World) : Prop := But w.heap.size rb w w' ∧ if 8 ≤ l.length then e = .returned (.int .i64 (9223372036854775807 - (foldB (l.take 8) : Int))) ∧ St w' rb (l.drop 8) else e = otherP
set_option maxRecDepth 100000 in
set_option maxHeartbeats 2000000 in
theorem rtime_any (rb : Nat) (l : List UInt8) (w : World) (h : St w rb l) :
    Calls Tryd.prog 79 #[.pointer (some ⟨rb, 0, none⟩)] w (TmEnd w rb l) := by
  go_enter Tryd.func79, Tryd.ntmps79
  go_wp2
  go_loopw [3, 4] (fun vu vi wr => ∃ (i : Nat) (u : Int), i ≤ 8 ∧ vu = .int .u64 u ∧ vi = .int .i64 i ∧ 0 ≤ u ∧ Hid (u = (foldB (l.take i) : Int) ∧ i ≤ l.length) ∧ Hid (St wr rb (l.drop i)) ∧ Hid (But w.heap.size rb w wr)) (fun _ vi _ => 8 - (intOf vi).toNat)
  case atStart => exact ⟨0, 0, by omega, rfl, rfl, by omega, ⟨rfl, by omega⟩, by unfold Hid; simpa using h, But.refl _ _ _⟩
  case round =>
    obtain ⟨i, u, hi, rfl, rfl, hu, HU, HS, HB⟩ := hrel
    by_cases hlt : i < 8
    · have hub : u < 72057594037927936 := by
        have h1 := foldB_lt (l.take i)
        have h2 := HU.out
        have h3 : (l.take i).length = i := by simp; omega
        rw [h3] at h1
        have h4 : (256 : Nat) ^ i ≤ 256 ^ 7 := Nat.pow_le_pow_right (by decide) (by omega)
        omega
      cases hd : l.drop i with
      | nil =>
        have HO := HS.out
        rw [hd] at HO
        have HO := hid (one_any rb [] wr HO)
        have HE : Hid (¬ 8 ≤ l.length) := by
          have := congrArg List.length hd
          unfold Hid; simp at this; omega
        clear hd
        go_wp2_with (go_at_call 80; refine HO.out.mono ?_; rintro e w1 ⟨hb1, rfl⟩)
        refine ⟨rfl, ?_⟩
        unfold TmEnd
        rw [if_neg HE.out]
        exact ⟨HB.out.trans (hb1.mono HB.out.size), rfl⟩
      | cons x t =>
        have hS := HS.out
        rw [hd] at hS
        obtain ⟨z, hz⟩ : ∃ z : Int, (x.toNat : Int) = z := ⟨_, rfl⟩
        have HO := hid (one_cons rb x t wr hS z hz)
        have hx := u8_lt x
        have HV : Hid (bits .or .u64 (u * 256) z = u * 256 + z) := by rw [← hz]; exact or_byte hu hub x.toNat hx
        have hz0 : 0 ≤ z := by omega
        have hz1 : z < 256 := by omega
        have hil : i < l.length := by
          have := congrArg List.length hd
          simp at this; omega
        have HN : Hid (u * 256 + z = (foldB (l.take (i + 1)) : Int) ∧ i + 1 ≤ l.length ∧ l.drop (i + 1) = t) := by
          refine ⟨?_, by omega, ?_⟩
          · rw [foldB_take l i hil, HU.out.1, ← hz]
            rw [List.drop_eq_getElem_cons hil] at hd
            injection hd with e1 e2
            rw [List.getD_eq_getElem?_getD, List.getElem?_eq_getElem hil, Option.getD_some, e1]
            push_cast
            rfl
          · rw [List.drop_eq_getElem_cons hil] at hd
            injection hd
        clear hd hz hS hx hil
        go_wp2_with (go_at_call 80; refine HO.out.mono ?_; rintro e w1 ⟨hb1, rfl, hS1⟩)
        go_roundw
        case rel =>
          refine ⟨i + 1, _, by omega, rfl, by go_num, ?_, ⟨?_, HN.out.2.1⟩, by rw [HN.out.2.2]; exact hS1, HB.out.trans (hb1.mono HB.out.size)⟩
          · rw [HV.out]; omega
          · rw [HV.out]; exact HN.out.1
        case measure => simp [intOf]; omega
    · obtain rfl : i = 8 := by omega
      have h1 : (foldB (l.take 8) : Int) < 18446744073709551616 := by
        have h1 := foldB_lt (l.take 8)
        have h3 : (l.take 8).length = 8 := by have := HU.out.2; simp; omega
        rw [h3] at h1
        have : (256 : Nat) ^ 8 = 18446744073709551616 := by decide
        omega
      have HR : Hid (wrap64 (9223372036854775807 - wrap64 u) = 9223372036854775807 - (foldB (l.take 8) : Int)) := by
        unfold Hid wrap64; rw [HU.out.1]; omega
      clear h1 hlt hi
      go_wp2
      go_ret
      unfold TmEnd
      refine ⟨HB.out, ?_⟩
      rw [if_pos HU.out.2, ← HR.out]
      exact ⟨rfl, HS.out⟩
end Go.Proofs.YtegdkcldgepngaaDoor
