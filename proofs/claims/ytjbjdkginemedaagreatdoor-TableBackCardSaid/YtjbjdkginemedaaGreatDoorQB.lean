/- Several texts in one: CN CO CP CR. Conditions: as each theorem names them. -/
import Derived.Test.YtjbjdkginemedaaGreatDoorQ4
import Derived.Test.YtjbjdkginemedaaGreatDoorQ6
import Derived.Test.YtjbjdkginemedaaGreatDoorQ3
import Derived.Test.YtjbjdkginemedaaGreatDoorQ1
import Derived.Deep.RegionHeld3
import Derived.Test.YtjbjdkginemedaaGreatDoorQA
/- The reader's text, its two bytes and its time, at any bytes: each ends in what it reads or in the panic that tells of something else. Conditions: the reader holds the bytes, a hundred thousand at most. -/
namespace Go.Proofs.YtjbjdkginemedaaGreatDoor
open Go.RowKit

theorem Row.but {w w' : World} {B rb : Nat} {v : Value} {l : List UInt8} (h : Row w B v l) (hb : But w.heap.size rb w w') (hr : rb < B) : Row w' B v l := by
  obtain ⟨h1, h2⟩ := h
  refine ⟨h1, ?_⟩
  rcases h2 with h2 | ⟨g, cap, cur, rfl, hB, hh, h3⟩
  · exact .inl h2
  · have hg : g < w.heap.size := by
      rcases Nat.lt_or_ge g w.heap.size with h' | h'
      · exact h'
      · rw [Array.getElem?_eq_none h'] at hh; cases hh
    exact .inr ⟨g, cap, cur, rfl, hB, by rw [hb.block g hg (by omega)]; exact hh, h3⟩
def lenAt (rb : Nat) (w : World) : Nat := match w.cell? ⟨rb, 0, none⟩ with | some (.slice _ m _) => m | _ => 0
theorem St.len {w : World} {rb : Nat} {l : List UInt8} (h : St w rb l) : lenAt rb w = l.length := by
  obtain ⟨⟨v, h1, A, c, rfl, _⟩, _⟩ := h
  unfold lenAt
  rw [h1]

def TxEnd (w : World) (rb : Nat) : Option (List UInt8 × List UInt8) → Ending → World → Prop
  | some p, e, w' => But w.heap.size rb w w' ∧ e = .returned (.string ⟨p.1.toArray⟩) ∧ St w' rb p.2
  | none, e, w' => But w.heap.size rb w w' ∧ e = otherP
theorem one_cons (rb : Nat) (x : UInt8) (t : List UInt8) (w : World) (h : St w rb (x :: t)) (y : Int) (hy : (x.toNat : Int) = y) :
    Calls Tryz.prog 170 #[.pointer (some ⟨rb, 0, none⟩)] w fun e w' => But w.heap.size rb w w' ∧ e = .returned (.int .u8 y) ∧ St w' rb t := by
  rw [← hy]; exact one_any rb (x :: t) w h

set_option maxRecDepth 100000 in
set_option maxHeartbeats 2000000 in
theorem rtext_any (rb : Nat) (l : List UInt8) (hl : l.length ≤ 100000) (w : World) (h : St w rb l) :
    Calls Tryz.prog 172 #[.pointer (some ⟨rb, 0, none⟩)] w (TxEnd w rb (rdT l)) := by
  have hlt := h.2.2
  have HLT := hid hlt
  go_enter Tryz.func172, Tryz.ntmps172
  go_wp2
  go_loopw [3] (fun vb wr => ∃ (s t : List UInt8), Row wr w.heap.size vb s ∧ Hid (rdT l = (rdT t).map fun p => (s ++ p.1, p.2)) ∧ Hid (St wr rb t) ∧ Hid (But w.heap.size rb w wr) ∧ Hid (s.length + t.length ≤ 100000)) (fun _ wr => lenAt rb wr)
  case atStart => exact ⟨[], l, Row.none _ _, by unfold Hid; cases rdT l <;> simp, h, But.refl _ _ _, by unfold Hid; simp; omega⟩
  case round =>
    obtain ⟨s, t, hR, HT, HS, HB, HL⟩ := hrel
    have HR := hid hR
    clear hR
    cases t with
    | nil =>
      have HO := hid (one_any rb [] wr HS.out)
      go_wp2_with (go_at_call 170; refine HO.out.mono ?_; rintro e w1 ⟨hb1, rfl⟩)
      refine ⟨rfl, ?_⟩
      rw [HT.out]
      exact ⟨HB.out.trans (hb1.mono HB.out.size), rfl⟩
    | cons x t =>
      by_cases hx : x = 0
      · subst hx
        have HO := hid (one_cons rb 0 t wr HS.out 0 rfl)
        cases t with
        | nil =>
          have HO2 : Hid (∀ W, St W rb [] → Calls Tryz.prog 170 #[.pointer (some ⟨rb, 0, none⟩)] W (OneEnd W rb [])) := fun W h => one_any rb [] W h
          go_wp2_with (first
            | (go_at_call 170; ((with_reducible refine HO.out.mono ?_); rintro e w1 ⟨hb1, rfl, hS1⟩))
            | (go_at_call 170; ((with_reducible refine (HO2.out _ hS1).mono ?_); rintro e w2 ⟨hb2, rfl⟩)))
          refine ⟨rfl, ?_⟩
          rw [HT.out]
          exact ⟨HB.out.trans ((hb1.trans (hb2.mono hb1.size)).mono HB.out.size), rfl⟩
        | cons y t =>
          obtain ⟨z, hz⟩ : ∃ z : Int, (y.toNat : Int) = z := ⟨_, rfl⟩
          have HZ := hid hz
          have HO2 : Hid (∀ W, St W rb (y :: t) → Calls Tryz.prog 170 #[.pointer (some ⟨rb, 0, none⟩)] W fun e w' => But W.heap.size rb W w' ∧ e = .returned (.int .u8 z) ∧ St w' rb t) := fun W h => one_cons rb y t W h z hz
          clear hz
          by_cases h1 : z = 1
          · subst h1
            have hcv : Hid (∀ W, Row W w.heap.size u3 s → (convert 30 9 u3).run Tryz.prog W = .ok (.string ⟨s.toArray⟩) W) := fun W h => row_convert h
            go_wp2_with (first
              | (go_at_call 170; ((with_reducible refine HO.out.mono ?_); rintro e w1 ⟨hb1, rfl, hS1⟩))
              | (go_at_call 170; ((with_reducible refine (HO2.out _ hS1).mono ?_); rintro e w2 ⟨hb2, rfl, hS2⟩; have hq := hcv.out w2 ((HR.out.but hb1 HLT.out).but hb2 HLT.out))))
            go_ret
            have e1 : y = 1 := UInt8.toNat_inj.1 (by have := HZ.out; have z : (1 : UInt8).toNat = 1 := rfl; omega)
            rw [HT.out, rdT, if_pos rfl, if_pos e1]
            refine ⟨HB.out.trans ((hb1.trans (hb2.mono hb1.size)).mono HB.out.size), ?_, hS2⟩
            simp
          · by_cases h2 : z = 255
            · subst h2
              go_wp2_with (first
                | (go_at_call 170; ((with_reducible refine HO.out.mono ?_); rintro e w1 ⟨hb1, rfl, hS1⟩))
                | (go_at_call 170; ((with_reducible refine (HO2.out _ hS1).mono ?_); rintro e w2 ⟨hb2, rfl, hS2⟩))
                | (go_at_call 171; refine (want_yes _ _).mono ?_; rintro e w3 ⟨rfl, rfl⟩)
                | (at_builtin; refine wpList_append_bytes rfl (.tmp 20) (.tmp 22) rfl _ w.heap.size _ s rfl (((HR.out.but hb1 HLT.out).but hb2 HLT.out).alloc _) ⟨w2.heap.size, 0, none⟩ 1 1 [0] rfl rfl (one_new' _ _ _ _ rfl) (by have := HL.out; simp only [List.length_cons, List.length_nil] at this ⊢; omega) (by have := HB.out.size; have := hb1.size; have := hb2.size; simp; omega) ?_; intro v1 w4 hR1 hb4))
              go_roundw
              case rel =>
                have hz1 : w.heap.size ≤ wr.heap.size := HB.out.size
                have hz2 : w.heap.size ≤ w2.heap.size := Nat.le_trans hz1 (Nat.le_trans hb1.size hb2.size)
                have hk4 : Below w.heap.size w2 w4 := ((Below.refl _ _).alloc hz2 _).trans hb4
                have e1 : y = 255 := UInt8.toNat_inj.1 (by have := HZ.out; have z : (255 : UInt8).toNat = 255 := rfl; omega)
                refine ⟨s ++ [0], t, hR1, ?_, hS2.keep (hk4.mono HLT.out), (HB.out.trans ((hb1.trans (hb2.mono hb1.size)).mono hz1)).trans (But.of_below hk4 rb), ?_⟩
                · unfold Hid
                  rw [HT.out, rdT, if_pos rfl, if_neg (by rw [e1]; decide), if_pos e1, Option.map_map]
                  congr 1
                  funext p
                  simp
                · have := HL.out
                  unfold Hid
                  simp only [List.length_append, List.length_cons, List.length_nil] at this ⊢
                  omega
              case measure =>
                have hz1 : w.heap.size ≤ wr.heap.size := HB.out.size
                have hz2 : w.heap.size ≤ w2.heap.size := Nat.le_trans hz1 (Nat.le_trans hb1.size hb2.size)
                have hk4 : Below w.heap.size w2 w4 := ((Below.refl _ _).alloc hz2 _).trans hb4
                rw [HS.out.len, (St.keep hS2 (hk4.mono HLT.out)).len]
                simp only [List.length_cons]
                omega
            · have q1 : (z == 1) = false := by simpa using h1
              have q2 : (z == 255) = false := by simpa using h2
              go_wp2_with (first
                | (go_at_call 170; ((with_reducible refine HO.out.mono ?_); rintro e w1 ⟨hb1, rfl, hS1⟩))
                | (go_at_call 170; ((with_reducible refine (HO2.out _ hS1).mono ?_); rintro e w2 ⟨hb2, rfl, hS2⟩))
                | (go_at_call 171; refine (want_no _ _).mono ?_; rintro e w3 ⟨rfl, rfl⟩))
              refine ⟨rfl, ?_⟩
              have e1 : ¬ y = 1 := fun e => h1 (by rw [← HZ.out, e]; rfl)
              have e2 : ¬ y = 255 := fun e => h2 (by rw [← HZ.out, e]; rfl)
              rw [HT.out, rdT, if_pos rfl, if_neg e1, if_neg e2]
              exact ⟨HB.out.trans ((hb1.trans (hb2.mono hb1.size)).mono HB.out.size), rfl⟩
      · obtain ⟨z, hz⟩ : ∃ z : Int, (x.toNat : Int) = z := ⟨_, rfl⟩
        have HZ := hid hz
        have HO := hid (one_cons rb x t wr HS.out z hz)
        have q0 : (z == 0) = false := by
          have : ¬ x.toNat = 0 := fun e => hx (UInt8.toNat_inj.1 e)
          simp; omega
        clear hz
        go_wp2_with (first
          | (go_at_call 170; ((with_reducible refine HO.out.mono ?_); rintro e w1 ⟨hb1, rfl, hS1⟩))
          | (at_builtin; refine wpList_append_bytes rfl (.tmp 20) (.tmp 22) rfl _ w.heap.size _ s rfl ((HR.out.but hb1 HLT.out).alloc _) ⟨w1.heap.size, 0, none⟩ 1 1 [x] rfl rfl (one_new' _ _ _ _ HZ.out.symm) (by have := HL.out; simp only [List.length_cons, List.length_nil] at this ⊢; omega) (by have := HB.out.size; have := hb1.size; simp; omega) ?_; intro v1 w4 hR1 hb4))
        go_roundw
        case rel =>
          have hz1 : w.heap.size ≤ wr.heap.size := HB.out.size
          have hz2 : w.heap.size ≤ w1.heap.size := Nat.le_trans hz1 hb1.size
          have hk4 : Below w.heap.size w1 w4 := ((Below.refl _ _).alloc hz2 _).trans hb4
          refine ⟨s ++ [x], t, hR1, ?_, hS1.keep (hk4.mono HLT.out), (HB.out.trans (hb1.mono hz1)).trans (But.of_below hk4 rb), ?_⟩
          · unfold Hid
            rw [HT.out, rdT_other hx, Option.map_map]
            congr 1
            funext p
            simp
          · have := HL.out
            unfold Hid
            simp only [List.length_append, List.length_cons, List.length_nil] at this ⊢
            omega
        case measure =>
          have hz1 : w.heap.size ≤ wr.heap.size := HB.out.size
          have hz2 : w.heap.size ≤ w1.heap.size := Nat.le_trans hz1 hb1.size
          have hk4 : Below w.heap.size w1 w4 := ((Below.refl _ _).alloc hz2 _).trans hb4
          rw [HS.out.len, (St.keep hS1 (hk4.mono HLT.out)).len]
          simp
end Go.Proofs.YtjbjdkginemedaaGreatDoor

/- The reader's two bytes of nothing and its time, at any bytes. Conditions: the reader holds the bytes. -/
namespace Go.Proofs.YtjbjdkginemedaaGreatDoor
open Go.RowKit

def SkEnd (w : World) (rb : Nat) (l : List UInt8) (e : Ending) (w' : World) : Prop :=
  (∃ r, l = 0 :: 0 :: r ∧ e = .returned (.bool true) ∧ St w' rb r ∧ But w.heap.size rb w w') ∨ ((∀ r, l ≠ 0 :: 0 :: r) ∧ e = .returned (.bool false) ∧ St w' rb l ∧ But w.heap.size rb w w')

set_option maxRecDepth 100000 in
set_option maxHeartbeats 2000000 in
theorem skip_short (rb m c : Nat) (A : Option Addr) (hm : m < 2) (w : World) (h0 : w.cell? ⟨rb, 0, none⟩ = some (.slice A m c)) :
    Calls Tryz.prog 173 #[.pointer (some ⟨rb, 0, none⟩), .int .u8 0, .int .u8 0] w fun e w' => e = .returned (.bool false) ∧ w = w' := by
  go_enter Tryz.func173, Tryz.ntmps173
  go_wp2
  go_ret
  exact ⟨rfl, rfl⟩

set_option maxRecDepth 100000 in
set_option maxHeartbeats 2000000 in
theorem skip_one (rb b off m c x : Nat) (hm : 2 ≤ m) (_hmc : m ≤ c) (_hc : c ≤ 9223372036854775807) (hx : ¬ x = 0) (w : World) (h0 : w.cell? ⟨rb, 0, none⟩ = some (.slice (some ⟨b, off, none⟩) m c)) (h1 : w.cell? ⟨b, off, none⟩ = some (.int .u8 (x : Int))) :
    Calls Tryz.prog 173 #[.pointer (some ⟨rb, 0, none⟩), .int .u8 0, .int .u8 0] w fun e w' => e = .returned (.bool false) ∧ w = w' := by
  have q0 : ((x : Int) == 0) = false := by simp; omega
  have q1 : ((x : Int) != 0) = true := by simp; omega
  go_enter Tryz.func173, Tryz.ntmps173
  go_wp2
  go_ret
  exact ⟨rfl, rfl⟩

set_option maxRecDepth 100000 in
set_option maxHeartbeats 2000000 in
theorem skip_two (rb b off m c y : Nat) (hm : 2 ≤ m) (_hmc : m ≤ c) (_hc : c ≤ 9223372036854775807) (hy : ¬ y = 0) (w : World) (h0 : w.cell? ⟨rb, 0, none⟩ = some (.slice (some ⟨b, off, none⟩) m c)) (h1 : w.cell? ⟨b, off, none⟩ = some (.int .u8 0)) (h2 : w.cell? ⟨b, off + 1, none⟩ = some (.int .u8 (y : Int))) :
    Calls Tryz.prog 173 #[.pointer (some ⟨rb, 0, none⟩), .int .u8 0, .int .u8 0] w fun e w' => e = .returned (.bool false) ∧ w = w' := by
  have q0 : ((y : Int) == 0) = false := by simp; omega
  have q1 : ((y : Int) != 0) = true := by simp; omega
  go_enter Tryz.func173, Tryz.ntmps173
  go_wp2
  go_ret
  exact ⟨rfl, rfl⟩

set_option maxRecDepth 100000 in
set_option maxHeartbeats 2000000 in
theorem skip_in (rb b off m c : Nat) (hm : 2 ≤ m) (_hmc : m ≤ c) (hc2 : 2 < c) (hc : c ≤ 9223372036854775807) (_hne : b ≠ rb) (w : World) (h0 : w.cell? ⟨rb, 0, none⟩ = some (.slice (some ⟨b, off, none⟩) m c)) (hf : w.frozen? ⟨rb, 0, none⟩ = false) (h1 : w.cell? ⟨b, off, none⟩ = some (.int .u8 0)) (h2 : w.cell? ⟨b, off + 1, none⟩ = some (.int .u8 0)) :
    Calls Tryz.prog 173 #[.pointer (some ⟨rb, 0, none⟩), .int .u8 0, .int .u8 0] w fun e w' => e = .returned (.bool true) ∧ w' = w.setCell ⟨rb, 0, none⟩ (.slice (some ⟨b, off + 2, none⟩) (m - 2) (c - 2)) := by
  go_enter Tryz.func173, Tryz.ntmps173
  go_wp2
  go_ret
  exact ⟨rfl, rfl⟩

set_option maxRecDepth 100000 in
set_option maxHeartbeats 2000000 in
theorem skip_all (rb b off : Nat) (_hne : b ≠ rb) (w : World) (h0 : w.cell? ⟨rb, 0, none⟩ = some (.slice (some ⟨b, off, none⟩) 2 2)) (hf : w.frozen? ⟨rb, 0, none⟩ = false) (h1 : w.cell? ⟨b, off, none⟩ = some (.int .u8 0)) (h2 : w.cell? ⟨b, off + 1, none⟩ = some (.int .u8 0)) :
    Calls Tryz.prog 173 #[.pointer (some ⟨rb, 0, none⟩), .int .u8 0, .int .u8 0] w fun e w' => e = .returned (.bool true) ∧ w' = w.setCell ⟨rb, 0, none⟩ (.slice (some ⟨b, off, none⟩) 0 0) := by
  go_enter Tryz.func173, Tryz.ntmps173
  go_wp2
  go_ret
  exact ⟨rfl, rfl⟩

theorem skip_any (rb : Nat) (l : List UInt8) (w : World) (h : St w rb l) :
    Calls Tryz.prog 173 #[.pointer (some ⟨rb, 0, none⟩), .int .u8 0, .int .u8 0] w (SkEnd w rb l) := by
  have hS := h
  obtain ⟨⟨v, h0, A, c, rfl, h2, h3, h4⟩, hf, hlt⟩ := h
  by_cases hs : l.length < 2
  · refine (skip_short rb l.length c A hs w h0).mono fun e w' ⟨he, hw⟩ => .inr ⟨fun r e => (by have := congrArg List.length e; simp at this; omega), he, by rw [← hw]; exact hS, by rw [← hw]; exact But.refl _ _ _⟩
  · match l, h0, h2, h4, hs, hS with
    | [], _, _, _, hs, _ => exact absurd (by simp) hs
    | [x], _, _, _, hs, _ => exact absurd (by simp) hs
    | x :: y :: t, h0, h2, h4, hs, hS =>
      obtain ⟨b, off, rfl, hb, hh⟩ := h4 (by simp)
      have hx := hh 0 (by simp)
      have hy := hh 1 (by simp)
      simp at hx hy
      by_cases zx : x = 0
      · subst zx
        by_cases zy : y = 0
        · subst zy
          have hB : But w.heap.size rb w (w.setCell ⟨rb, 0, none⟩ (restV b off (0 :: 0 :: t).length c 2)) := (But.refl _ _ _).setCell _ _
          have hR := (rd_rest (w := w) (rb := rb) (k := 2) (l := 0 :: 0 :: t) (by simp) h2 h3 hb hh).below (hB.low hlt)
          have fin : SkEnd w rb (0 :: 0 :: t) (.returned (.bool true)) (w.setCell ⟨rb, 0, none⟩ (restV b off (0 :: 0 :: t).length c 2)) :=
            .inl ⟨t, rfl, rfl, ⟨⟨_, cell_set_rb h0 _, hR⟩, by rw [World.frozen?_setCell]; exact hf, Nat.lt_of_lt_of_le hlt hB.size⟩, hB⟩
          unfold restV at fin
          by_cases hc2 : 2 < c
          · rw [if_pos hc2] at fin
            exact (skip_in rb b off (0 :: 0 :: t).length c (by simp) h2 hc2 h3 (by omega) w h0 hf hx hy).mono fun e w' ⟨he, hw⟩ => by rw [he, hw]; exact fin
          · rw [if_neg hc2] at fin
            have e0 : (0 :: 0 :: t : List UInt8).length = t.length + 2 := rfl
            have e1 : c = 2 := by omega
            have e2 : (0 :: 0 :: t : List UInt8).length = 2 := by omega
            subst e1
            rw [e2] at h0
            exact (skip_all rb b off (by omega) w h0 hf hx hy).mono fun e w' ⟨he, hw⟩ => by rw [he, hw]; exact fin
        · refine (skip_two rb b off (0 :: y :: t).length c y.toNat (by simp) h2 h3 (fun e => zy (UInt8.toNat_inj.1 e)) w h0 hx hy).mono fun e w' ⟨he, hw⟩ => .inr ⟨fun r e => ?_, he, by rw [← hw]; exact hS, by rw [← hw]; exact But.refl _ _ _⟩
          injection e with _ e; injection e with e _; exact zy e
      · refine (skip_one rb b off (x :: y :: t).length c x.toNat (by simp) h2 h3 (fun e => zx (UInt8.toNat_inj.1 e)) w h0 hx).mono fun e w' ⟨he, hw⟩ => .inr ⟨fun r e => ?_, he, by rw [← hw]; exact hS, by rw [← hw]; exact But.refl _ _ _⟩
        injection e with e _; exact zx e

def TmEnd (w : World) (rb : Nat) (l : List UInt8) (e : Ending) (w' : World) : Prop := But w.heap.size rb w w' ∧ if 8 ≤ l.length then e = .returned (.int .i64 (9223372036854775807 - (foldB (l.take 8) : Int))) ∧ St w' rb (l.drop 8) else e = otherP
set_option maxRecDepth 100000 in
set_option maxHeartbeats 2000000 in
theorem rtime_any (rb : Nat) (l : List UInt8) (w : World) (h : St w rb l) :
    Calls Tryz.prog 174 #[.pointer (some ⟨rb, 0, none⟩)] w (TmEnd w rb l) := by
  go_enter Tryz.func174, Tryz.ntmps174
  go_wp2
  go_loopw [3, 4] (fun vu vi wr => ∃ (i : Nat) (u : Int), i ≤ 8 ∧ vu = .int .u64 u ∧ vi = .int .i64 i ∧ 0 ≤ u ∧ Hid (u = (foldB (l.take i) : Int) ∧ i ≤ l.length) ∧ Hid (St wr rb (l.drop i)) ∧ Hid (But w.heap.size rb w wr)) (fun _ vi _ => 8 - (intOf vi).toNat)
  case atStart => exact ⟨0, 0, by omega, rfl, rfl, by omega, ⟨rfl, by omega⟩, by unfold Hid; simpa using h, But.refl _ _ _⟩
  case round =>
    obtain ⟨i, u, hi, rfl, rfl, hu, HU, HS, HB⟩ := hrel
    by_cases hlt : i < 8
    · have hub : u < 72057594037927936 := by
        have h1 := foldB_lt (l.take i)
        have h2 := HU.out
        have h3 : (l.take i).length = i := by simp; omega
        rw [h3] at h1
        have h4 : (256 : Nat) ^ i ≤ 256 ^ 7 := Nat.pow_le_pow_right (by decide) (by omega)
        omega
      cases hd : l.drop i with
      | nil =>
        have HO := HS.out
        rw [hd] at HO
        have HO := hid (one_any rb [] wr HO)
        have HE : Hid (¬ 8 ≤ l.length) := by
          have := congrArg List.length hd
          unfold Hid; simp at this; omega
        clear hd
        go_wp2_with (go_at_call 170; refine HO.out.mono ?_; rintro e w1 ⟨hb1, rfl⟩)
        refine ⟨rfl, ?_⟩
        unfold TmEnd
        rw [if_neg HE.out]
        exact ⟨HB.out.trans (hb1.mono HB.out.size), rfl⟩
      | cons x t =>
        have hS := HS.out
        rw [hd] at hS
        obtain ⟨z, hz⟩ : ∃ z : Int, (x.toNat : Int) = z := ⟨_, rfl⟩
        have HO := hid (one_cons rb x t wr hS z hz)
        have hx := u8_lt x
        have HV : Hid (bits .or .u64 (u * 256) z = u * 256 + z) := by rw [← hz]; exact or_byte hu hub x.toNat hx
        have hz0 : 0 ≤ z := by omega
        have hz1 : z < 256 := by omega
        have hil : i < l.length := by
          have := congrArg List.length hd
          simp at this; omega
        have HN : Hid (u * 256 + z = (foldB (l.take (i + 1)) : Int) ∧ i + 1 ≤ l.length ∧ l.drop (i + 1) = t) := by
          refine ⟨?_, by omega, ?_⟩
          · rw [foldB_take l i hil, HU.out.1, ← hz]
            rw [List.drop_eq_getElem_cons hil] at hd
            injection hd with e1 e2
            rw [List.getD_eq_getElem?_getD, List.getElem?_eq_getElem hil, Option.getD_some, e1]
            push_cast
            rfl
          · rw [List.drop_eq_getElem_cons hil] at hd
            injection hd
        clear hd hz hS hx hil
        go_wp2_with (go_at_call 170; refine HO.out.mono ?_; rintro e w1 ⟨hb1, rfl, hS1⟩)
        go_roundw
        case rel =>
          refine ⟨i + 1, _, by omega, rfl, by go_num, ?_, ⟨?_, HN.out.2.1⟩, by rw [HN.out.2.2]; exact hS1, HB.out.trans (hb1.mono HB.out.size)⟩
          · rw [HV.out]; omega
          · rw [HV.out]; exact HN.out.1
        case measure => simp [intOf]; omega
    · obtain rfl : i = 8 := by omega
      have h1 : (foldB (l.take 8) : Int) < 18446744073709551616 := by
        have h1 := foldB_lt (l.take 8)
        have h3 : (l.take 8).length = 8 := by have := HU.out.2; simp; omega
        rw [h3] at h1
        have : (256 : Nat) ^ 8 = 18446744073709551616 := by decide
        omega
      have HR : Hid (wrap64 (9223372036854775807 - wrap64 u) = 9223372036854775807 - (foldB (l.take 8) : Int)) := by
        unfold Hid wrap64; rw [HU.out.1]; omega
      clear h1 hlt hi
      go_wp2
      go_ret
      unfold TmEnd
      refine ⟨HB.out, ?_⟩
      rw [if_pos HU.out.2, ← HR.out]
      exact ⟨rfl, HS.out⟩
end Go.Proofs.YtjbjdkginemedaaGreatDoor

/- The reader's cell at any bytes: the cell whose bytes they are, or the panic. Conditions: the reader holds the bytes, four thousand at most; the tables of utf8 read as they are laid. -/
namespace Go.Proofs.YtjbjdkginemedaaGreatDoor
open Go.RowKit

abbrev zeroA : Array Value := #[.string ⟨#[]⟩, .string ⟨#[]⟩, .string ⟨#[]⟩, .int .i64 0, .int .i64 0, .int .i64 0, .int .i64 0, .string ⟨#[]⟩]
theorem Blk.but {w w' : World} {rb k : Nat} {T : TypeId} {xs : Array Value} (h : Blk w k T xs) (hb : But w.heap.size rb w w') (hne : k ≠ rb) : Blk w' k T xs := by
  have hl := h.lt
  unfold Blk at *; rw [hb.block k hl hne]; exact h
theorem But.alloc {B rb : Nat} {w w1 : World} (h : But B rb w w1) (hB : B ≤ w1.heap.size) (o : Obj) : But B rb w (w1.alloc o) := h.trans (But.of_below ((below_new w1 o).mono hB) rb)
theorem But.setO {B rb : Nat} {w w1 : World} (h : But B rb w w1) {b : Nat} (hp : B ≤ b) (i : Nat) (v : Value) : But B rb w (w1.setCell ⟨b, i, none⟩ v) := h.trans (But.of_below ((Below.refl _ _).setCell (p := ⟨b, i, none⟩) hp v) rb)

/-- Where the reader and its cell stand. -/
structure CSt (w W : World) (rb cb : Nat) (xs : Array Value) (l : List UInt8) : Prop where
  c : Blk W cb 26 xs
  z : Blk W w.heap.size 26 zeroA
  st : St W rb l
  but : But w.heap.size rb w W
  lt : w.heap.size < cb
  rlt : rb < w.heap.size
section
variable {w W W' : World} {rb cb : Nat} {xs : Array Value} {l l' : List UInt8}
theorem CSt.call (h : CSt w W rb cb xs l) (hb : But W.heap.size rb W W') (hs : St W' rb l') : CSt w W' rb cb xs l' := by
  have h1 := h.lt
  have h2 := h.rlt
  exact ⟨h.c.but hb (by omega), h.z.but hb (by omega), hs, h.but.trans (hb.mono h.but.size), h1, h2⟩
theorem CSt.below (h : CSt w W rb cb xs l) (hb : Below W.heap.size W W') : CSt w W' rb cb xs l := h.call (But.of_below hb rb) (h.st.keep (hb.mono h.st.2.2))
theorem CSt.set (h : CSt w W rb cb xs l) (j : Nat) (v : Value) : CSt w (W.setCell ⟨cb, j, none⟩ v) rb cb (xs.setIfInBounds j v) l := by
  have h1 := h.lt
  have h2 := h.rlt
  refine ⟨h.c.set j v, ?_, ?_, h.but.setO (by omega) j v, h1, h2⟩
  · have := h.z
    unfold Blk at *
    rw [Below.heap_setCell _ _ _ _ (show w.heap.size ≠ (⟨cb, j, none⟩ : Addr).block by show _ ≠ cb; omega)]; exact this
  · exact h.st.keep ((Below.refl _ _).setCell (p := ⟨cb, j, none⟩) (by show _ ≤ cb; omega) v)
theorem CSt.cell (h : CSt w W rb cb xs l) (j : Nat) : W.cell? ⟨cb, j, none⟩ = xs[j]? := h.c.cell j
end
/-- The cell that was made ahead of all. -/
theorem CSt.new {w w0 w1 w2 : World} {rb : Nat} {l : List UInt8} (hr : rb < w.heap.size) (e0 : w0 = w.alloc (.cells zeroA 26)) (h1 : But w0.heap.size rb w0 w1) (h2 : But w1.heap.size rb w1 w2) (hs : St w2 rb l) (xs : Array Value) :
    CSt w (w2.alloc (.cells xs 26)) rb w2.heap.size xs l := by
  subst e0
  have b0 := Blk.new w 26 zeroA
  have b1 := b0.but h1 (by omega)
  have b2 := b1.but h2 (by omega)
  have hz : w.heap.size < w2.heap.size := b2.lt
  have hb : But w.heap.size rb w w2 := (((But.refl _ _ _).alloc (Nat.le_refl _) _).trans (h1.mono (by simp))).trans (h2.mono (Nat.le_of_lt b1.lt))
  refine ⟨Blk.new w2 _ _, b2.keep (below_new _ _) hz, hs.keep ((below_new _ _).mono hs.2.2), hb.alloc (Nat.le_of_lt hz) _, hz, hr⟩

theorem esc_ge (l : List UInt8) : l.length ≤ (esc l).length := by
  induction l with
  | nil => simp
  | cons c l ih => unfold esc; split <;> simp only [List.length_cons] <;> omega

/-- What a reader's cell ends in. -/
def CellEnd (rb : Nat) (l : List UInt8) (w : World) (e : Ending) (w' : World) : Prop :=
  But w.heap.size rb w w' ∧ ((∃ (r f q : List UInt8) (t k vk vn : Int) (vs : List UInt8), cRight r f q t k vk vn vs = true ∧ inI vn ∧ cEnc r f q t k vk vn vs = l ∧ e = .returned (cellV ⟨r.toArray⟩ ⟨f.toArray⟩ ⟨q.toArray⟩ t k vk vn ⟨vs.toArray⟩)) ∨ (NoCell l ∧ e = otherP))

set_option maxRecDepth 100000 in
set_option maxHeartbeats 4000000 in
theorem rcell_any (rb : Nat) (l : List UInt8) (hl : l.length ≤ 100000) (w : World) (h : St w rb l) (hL : ∀ W, Below rb w W → LaidU W) :
    Calls Tryz.prog 153 #[.pointer (some ⟨rb, 0, none⟩)] w (CellEnd rb l w) := by
  have hlt := h.2.2
  have HLT := hid hlt
  have HS0 : Hid (St (w.alloc (.cells zeroA 26)) rb l) := h.keep ((below_new _ _).mono hlt)
  have HB0 : Hid (But w.heap.size rb w (w.alloc (.cells zeroA 26))) := (But.refl _ _ _).alloc (Nat.le_refl _) _
  have HL := hid hL
  cases h1 : rdT l with
  | none =>
    have HT := rtext_any rb l (by omega) _ HS0.out
    rw [h1] at HT
    have HT := hid HT
    have HE := hid (no_head h1)
    clear h hlt hL h1
    go_enter Tryz.func153, Tryz.ntmps153
    go_wp2_with (go_at_call 172; refine HT.out.mono ?_; rintro e w1 ⟨hb1, rfl⟩)
    refine ⟨rfl, ?_⟩
    exact ⟨HB0.out.trans (hb1.mono (by simp)), .inr ⟨HE.out, rfl⟩⟩
  | some p =>
    obtain ⟨r, l1⟩ := p
    have HT := rtext_any rb l (by omega) _ HS0.out
    rw [h1] at HT
    have HT : Hid (Calls Tryz.prog 172 #[.pointer (some ⟨rb, 0, none⟩)] (w.alloc (.cells zeroA 26)) fun e w' => But (w.alloc (.cells zeroA 26)).heap.size rb (w.alloc (.cells zeroA 26)) w' ∧ e = .returned (.string ⟨r.toArray⟩) ∧ St w' rb l1) := HT
    have hl1 : l1.length ≤ 100000 := by have := congrArg List.length (rdT_rest h1); simp at this; omega
    cases h2 : rdT l1 with
    | none =>
      have HT2 : Hid (∀ W, St W rb l1 → Calls Tryz.prog 172 #[.pointer (some ⟨rb, 0, none⟩)] W fun e w' => But W.heap.size rb W w' ∧ e = otherP) := fun W hW => by
        have := rtext_any rb l1 (by omega) W hW
        rwa [h2] at this
      have HE := hid (no_fam h1 h2)
      clear h hlt hL h1 h2
      go_enter Tryz.func153, Tryz.ntmps153
      go_wp2_with (first
        | (go_at_call 172; ((with_reducible refine HT.out.mono ?_); rintro e w1 ⟨hb1, rfl, hS1⟩))
        | (go_at_call 172; ((with_reducible refine (HT2.out _ hS1).mono ?_); rintro e w2 ⟨hb2, rfl⟩)))
      refine ⟨rfl, ?_⟩
      exact ⟨(HB0.out.trans (hb1.mono (by simp))).trans (hb2.mono (by have := hb1.size; simp at this; omega)), .inr ⟨HE.out, rfl⟩⟩
    | some p =>
      obtain ⟨f, l2⟩ := p
      have HT2 : Hid (∀ W, St W rb l1 → Calls Tryz.prog 172 #[.pointer (some ⟨rb, 0, none⟩)] W fun e w' => But W.heap.size rb W w' ∧ e = .returned (.string ⟨f.toArray⟩) ∧ St w' rb l2) := fun W hW => by
        have := rtext_any rb l1 (by omega) W hW
        rwa [h2] at this
      have hl2 : l2.length ≤ 100000 := by have := congrArg List.length (rdT_rest h2); simp at this; omega
      have H1 := hid h1
      have H2 := hid h2
      clear h hlt hL h1 h2
      go_enter Tryz.func153, Tryz.ntmps153
      go_upto_region 2 with (first
        | (go_at_call 172; ((with_reducible refine HT.out.mono ?_); rintro e w1 ⟨hb1, rfl, hS1⟩))
        | (go_at_call 172; ((with_reducible refine (HT2.out _ hS1).mono ?_); rintro e w2 ⟨hb2, rfl, hS2⟩)))
      obtain ⟨cb, hcb⟩ : ∃ cb, w2.heap.size = cb := ⟨_, rfl⟩
      refine wp_ltr (fun W => CSt w W rb cb #[.string ⟨r.toArray⟩, .string ⟨f.toArray⟩, .string ⟨#[]⟩, .int .i64 0, .int .i64 0, .int .i64 0, .int .i64 0, .string ⟨#[]⟩] l2) (by rw [← hcb]; exact CSt.new HLT.out rfl hb1 hb2 hS2 _) (fun W hC => ?_)
      rw [hcb]
      clear hcb hb1 hb2 hS1 hS2 HT HT2 HS0 HB0
      have HC := hid hC
      clear hC
      by_cases hm : ∃ l3, l2 = 0 :: 0 :: l3
      · obtain ⟨l3, rfl⟩ := hm
        have HSk : Hid (∀ W, St W rb (0 :: 0 :: l3) → Calls Tryz.prog 173 #[.pointer (some ⟨rb, 0, none⟩), .int .u8 0, .int .u8 0] W fun e w' => But W.heap.size rb W w' ∧ e = .returned (.bool true) ∧ St w' rb l3) := fun W hW => by
          refine (skip_any rb _ W hW).mono fun e w' h => ?_
          rcases h with ⟨r', e1, e2, e3, e4⟩ | ⟨e1, _⟩
          · injection e1 with _ e1; injection e1 with _ e1; subst e1; exact ⟨e4, e2, e3⟩
          · exact absurd rfl (e1 l3)
        have HTK : Hid (Took l r f [] true l3) := ⟨_, _, H1.out, H2.out, .inl ⟨rfl, rfl, rfl⟩⟩
        have HSZ : Hid (r.length ≤ 9223372036854775807 ∧ f.length ≤ 9223372036854775807 ∧ l3.length ≤ 100000) := by
          have a1 := congrArg List.length (rdT_rest H1.out)
          have a2 := congrArg List.length (rdT_rest H2.out)
          have a3 := esc_ge r
          have a4 := esc_ge f
          simp at a1 a2 hl2
          exact ⟨by omega, by omega, by omega⟩
        clear H1 H2 hl1 hl2
        go_upto_region 5 with (first
          | (go_at_call 173; refine (HSk.out _ HC.out.st).mono ?_; rintro e w3 ⟨hb3, rfl, hS3⟩))
        refine wp_ltr (fun W => CSt w W rb cb #[.string ⟨r.toArray⟩, .string ⟨f.toArray⟩, .string ⟨#[]⟩, .int .i64 0, .int .i64 0, .int .i64 0, .int .i64 0, .string ⟨#[]⟩] l3) (HC.out.call hb3 hS3) (fun W3 hC3 => ?_)
        have HC3 := hid hC3
        clear hC3 hb3 hS3 HC HSk
        by_cases h8 : 8 ≤ l3.length
        · obtain ⟨T, hT⟩ : ∃ T : Int, 9223372036854775807 - (foldB (l3.take 8) : Int) = T := ⟨_, rfl⟩
          have HM : Hid (∀ W, St W rb l3 → Calls Tryz.prog 174 #[.pointer (some ⟨rb, 0, none⟩)] W fun e w' => But W.heap.size rb W w' ∧ e = .returned (.int .i64 T) ∧ St w' rb (l3.drop 8)) := fun W hW => by
            refine (rtime_any rb l3 W hW).mono fun e w' h => ?_
            unfold TmEnd at h
            rw [if_pos h8, hT] at h
            exact ⟨h.1, h.2.1, h.2.2⟩
          have c3 : W3.cell? ⟨cb, 3, none⟩ = some (.int .i64 0) := HC3.out.cell 3
          cases hd : l3.drop 8 with
          | nil =>
            rw [hd] at HM
            have HE := hid (HTK.out.no9 hd)
            have HO : Hid (∀ W, St W rb [] → Calls Tryz.prog 170 #[.pointer (some ⟨rb, 0, none⟩)] W (OneEnd W rb [])) := fun W h => one_any rb [] W h
            clear hd hT
            go_wp2_with (first
              | (go_at_call 174; refine (HM.out _ HC3.out.st).mono ?_; rintro e w5 ⟨hb5, rfl, hS5⟩; have HC4 := hid ((HC3.out.call hb5 hS5).set 3 (.int .i64 T)); have c3' : w5.cell? ⟨cb, 3, none⟩ = some (.int .i64 0) := (HC3.out.call hb5 hS5).cell 3; have f3 : w5.frozen? ⟨cb, 3, none⟩ = false := (HC3.out.call hb5 hS5).c.free 3)
              | (go_at_call 170; refine (HO.out _ HC4.out.st).mono ?_; rintro e w6 ⟨hb6, rfl⟩))
            refine ⟨rfl, ?_⟩
            exact ⟨HC4.out.but.trans (hb6.mono HC4.out.but.size), .inr ⟨HE.out, rfl⟩⟩
          | cons x V =>
            rw [hd] at HM
            obtain ⟨z, hz⟩ : ∃ z : Int, (x.toNat : Int) = z := ⟨_, rfl⟩
            have HO : Hid (∀ W, St W rb (x :: V) → Calls Tryz.prog 170 #[.pointer (some ⟨rb, 0, none⟩)] W fun e w' => But W.heap.size rb W w' ∧ e = .returned (.int .u8 z) ∧ St w' rb V) := fun W h => one_cons rb x V W h z hz
            have hx := u8_lt x
            have hz0 : 0 ≤ z := by omega
            have hz1 : z < 256 := by omega
            have HD0 := hid (And.intro hd (And.intro hT (And.intro hz h8)))
            clear hd hT hz hx h8
            go_upto_region 7 with (first
              | (go_at_call 174; refine (HM.out _ HC3.out.st).mono ?_; rintro e w5 ⟨hb5, rfl, hS5⟩; have HC4 := hid ((HC3.out.call hb5 hS5).set 3 (.int .i64 T)); have c3' : w5.cell? ⟨cb, 3, none⟩ = some (.int .i64 0) := (HC3.out.call hb5 hS5).cell 3; have f3 : w5.frozen? ⟨cb, 3, none⟩ = false := (HC3.out.call hb5 hS5).c.free 3)
              | (go_at_call 170; refine (HO.out _ HC4.out.st).mono ?_; rintro e w6 ⟨hb6, rfl, hS6⟩; have HC5 := hid (HC4.out.call hb6 hS6); have c4 : w6.cell? ⟨cb, 4, none⟩ = some (.int .i64 0) := HC5.out.cell 4; have f4 : w6.frozen? ⟨cb, 4, none⟩ = false := HC5.out.c.free 4))
            refine wp_ltr (fun W => CSt w W rb cb #[.string ⟨r.toArray⟩, .string ⟨f.toArray⟩, .string ⟨#[]⟩, .int .i64 T, .int .i64 (255 - z), .int .i64 0, .int .i64 0, .string ⟨#[]⟩] V) (HC5.out.set 4 _) (fun W5 hC5 => ?_)
            clear HM HO HC4 HC5 hb5 hb6 hS5 hS6 c3 c3' f3 c4 f4 HC3
            obtain ⟨k, hk⟩ : ∃ k : Int, 255 - z = k := ⟨_, rfl⟩
            rw [hk] at hC5
            try rw [hk]
            have HC5 := hid hC5
            have HKK : Hid (255 - (x.toNat : Int) = k) := by have := HD0.out.2.2.1; unfold Hid; omega
            clear hC5 hk hz0 hz1
            have g4 : W5.cell? ⟨cb, 4, none⟩ = some (.int .i64 k) := HC5.out.cell 4
            by_cases k4 : k = 4
            · subst k4
              have HD : Hid (l3.drop 8 = x :: V ∧ T = 9223372036854775807 - (foldB (l3.take 8) : Int) ∧ 255 - (x.toNat : Int) = 4 ∧ 8 ≤ l3.length ∧ true = decide (255 - (x.toNat : Int) = 4)) := ⟨HD0.out.1, HD0.out.2.1.symm, HKK.out, HD0.out.2.2.2, by rw [HKK.out]; rfl⟩
              have k4 : True := trivial
              cases V with
              | cons y V =>
                have HE : Hid (NoCell l) := HTK.out.noRest HD.out.1 (by rw [HD.out.2.2.1]; decide) (by simp)
                have hst := HC5.out.st
                obtain ⟨⟨v, hv, A, c, rfl, hs2, hs3, hs4⟩, hs5, hs6⟩ := hst
                have hv : W5.cell? ⟨rb, 0, none⟩ = some (.slice A (V.length + 1) c) := hv
                have q9 : ((V.length : Int) + 1 == 0) = false := by simp; omega
                clear hs2 hs3 hs4 hs5 hs6
                go_wp2_with (first
                  | (go_at_call 171; ((with_reducible refine (want_yes _ _).mono ?_); rintro e w9 ⟨rfl, rfl⟩))
                  | (go_at_call 171; ((with_reducible refine (want_no _ _).mono ?_); rintro e w9 ⟨rfl, rfl⟩)))
                refine ⟨rfl, ?_⟩
                exact ⟨HC5.out.but, .inr ⟨HE.out, rfl⟩⟩
              | nil =>
                have hst := HC5.out.st
                obtain ⟨⟨v, hv, A, c, rfl, hs2, hs3, hs4⟩, hs5, hs6⟩ := hst
                have hv : W5.cell? ⟨rb, 0, none⟩ = some (.slice A 0 c) := hv
                clear hs2 hs3 hs4 hs5 hs6
                go_upto_region 13 with (first
                  | (go_at_call 171; ((with_reducible refine (want_yes _ _).mono ?_); rintro e w9 ⟨rfl, rfl⟩)))
                clear hv k4
                have HCw := HC5
                have HR : Hid (∀ W', Below rb w W' → Calls Tryz.prog 98 #[cellV ⟨r.toArray⟩ ⟨f.toArray⟩ ⟨#[]⟩ T 4 0 0 ⟨#[]⟩] W' fun e w' => e = .returned (.bool (cRight r f [] T 4 0 0 [])) ∧ Below W'.heap.size W' w') :=
                  fun W' hW' => cright_any ⟨r.toArray⟩ ⟨f.toArray⟩ ⟨#[]⟩ ⟨#[]⟩ T 4 0 (vn := 0) (by unfold inI; omega) (by rw [mk_size]; exact HSZ.out.2.1) (by decide) W' (HL.out W' hW')
                have HBW : Hid (Below rb w W5) := (HCw.out.but.low HLT.out)
                have g0 : W5.cell? ⟨cb, 0, none⟩ = some (.string ⟨r.toArray⟩) := HCw.out.cell 0
                have g1 : W5.cell? ⟨cb, 1, none⟩ = some (.string ⟨f.toArray⟩) := HCw.out.cell 1
                have g2 : W5.cell? ⟨cb, 2, none⟩ = some (.string ⟨#[]⟩) := HCw.out.cell 2
                have g3 : W5.cell? ⟨cb, 3, none⟩ = some (.int .i64 T) := HCw.out.cell 3
                have g4 : W5.cell? ⟨cb, 4, none⟩ = some (.int .i64 4) := HCw.out.cell 4
                have g5 : W5.cell? ⟨cb, 5, none⟩ = some (.int .i64 0) := HCw.out.cell 5
                have g6 : W5.cell? ⟨cb, 6, none⟩ = some (.int .i64 0) := HCw.out.cell 6
                have g7 : W5.cell? ⟨cb, 7, none⟩ = some (.string ⟨#[]⟩) := HCw.out.cell 7
                cases hr : cRight r f [] T 4 0 0 [] with
                | false =>
                  rw [hr] at HR
                  have HE : Hid (NoCell l) := HTK.out.noRight HD.out.1 (by rw [HD.out.2.2.1]; decide) (by rw [← HD.out.2.1, HD.out.2.2.1]; exact hr)
                  clear hr
                  go_wp2_with (first
                    | (go_at_call 98; refine (HR.out _ HBW.out).mono ?_; rintro e w8 ⟨rfl, hb8⟩)
                    | (go_at_call 171; refine (want_no _ _).mono ?_; rintro e w9 ⟨rfl, rfl⟩))
                  refine ⟨rfl, ?_⟩
                  exact ⟨(HCw.out.below hb8).but, .inr ⟨HE.out, rfl⟩⟩
                | true =>
                  rw [hr] at HR
                  have HE : Hid (cRight r f [] T 4 0 0 [] = true ∧ inI 0 ∧ cEnc r f [] T 4 0 0 [] = l) := ⟨hr, (by unfold inI; omega), by have := HTK.out.enc HD.out.2.2.2.1 HD.out.1 HD.out.2.2.2.2 (vk := 0) (vn := 0) (vs := []) (by unfold vPart; rw [if_neg (by rw [HD.out.2.2.1]; decide)]); rwa [← HD.out.2.1, HD.out.2.2.1] at this⟩
                  clear hr
                  go_upto_region 14 with (first
                    | (go_at_call 98; refine (HR.out _ HBW.out).mono ?_; rintro e w8 ⟨rfl, hb8⟩)
                    | (go_at_call 171; refine (want_yes _ _).mono ?_; rintro e w9 ⟨rfl, rfl⟩))
                  have HC8 := hid (HCw.out.below hb8)
                  clear g0 g1 g2 g3 g4 g5 g6 g7
                  have g0 : w8.cell? ⟨cb, 0, none⟩ = some (.string ⟨r.toArray⟩) := HC8.out.cell 0
                  have g1 : w8.cell? ⟨cb, 1, none⟩ = some (.string ⟨f.toArray⟩) := HC8.out.cell 1
                  have g2 : w8.cell? ⟨cb, 2, none⟩ = some (.string ⟨#[]⟩) := HC8.out.cell 2
                  have g3 : w8.cell? ⟨cb, 3, none⟩ = some (.int .i64 T) := HC8.out.cell 3
                  have g4 : w8.cell? ⟨cb, 4, none⟩ = some (.int .i64 4) := HC8.out.cell 4
                  have g5 : w8.cell? ⟨cb, 5, none⟩ = some (.int .i64 0) := HC8.out.cell 5
                  have g6 : w8.cell? ⟨cb, 6, none⟩ = some (.int .i64 0) := HC8.out.cell 6
                  have g7 : w8.cell? ⟨cb, 7, none⟩ = some (.string ⟨#[]⟩) := HC8.out.cell 7
                  have z0 : w8.cell? ⟨w.heap.size, 0, none⟩ = some (.string ⟨#[]⟩) := HC8.out.z.cell 0
                  have z1 : w8.cell? ⟨w.heap.size, 1, none⟩ = some (.string ⟨#[]⟩) := HC8.out.z.cell 1
                  have z2 : w8.cell? ⟨w.heap.size, 2, none⟩ = some (.string ⟨#[]⟩) := HC8.out.z.cell 2
                  have z3 : w8.cell? ⟨w.heap.size, 3, none⟩ = some (.int .i64 0) := HC8.out.z.cell 3
                  have z4 : w8.cell? ⟨w.heap.size, 4, none⟩ = some (.int .i64 0) := HC8.out.z.cell 4
                  have z5 : w8.cell? ⟨w.heap.size, 5, none⟩ = some (.int .i64 0) := HC8.out.z.cell 5
                  have z6 : w8.cell? ⟨w.heap.size, 6, none⟩ = some (.int .i64 0) := HC8.out.z.cell 6
                  have z7 : w8.cell? ⟨w.heap.size, 7, none⟩ = some (.string ⟨#[]⟩) := HC8.out.z.cell 7
                  have zf : ∀ j, w8.frozen? ⟨w.heap.size, j, none⟩ = false := fun j => HC8.out.z.free j
                  have hneq : cb ≠ w.heap.size := by have := HC8.out.lt; omega
                  go_wp2
                  refine bodyPost_ret (v := cellV ⟨r.toArray⟩ ⟨f.toArray⟩ ⟨#[]⟩ T 4 0 0 ⟨#[]⟩) (by simp [results, Tryz.results153, go_sem, cell_set_same, z0, z1, z2, z3, z4, z5, z6, z7]) rfl ?_
                  refine ⟨?_, .inl ⟨r, f, [], T, 4, 0, 0, [], HE.out.1, HE.out.2.1, HE.out.2.2, rfl⟩⟩
                  have hB := HC8.out.but
                  exact (((((((hB.setO (Nat.le_refl _) _ _).setO (Nat.le_refl _) _ _).setO (Nat.le_refl _) _ _).setO (Nat.le_refl _) _ _).setO (Nat.le_refl _) _ _).setO (Nat.le_refl _) _ _).setO (Nat.le_refl _) _ _).setO (Nat.le_refl _) _ _
            · have HE : Hid (NoCell l) := HTK.out.noKind HD0.out.1 (by rw [HKK.out]; simpa using k4)
              have q4 : (k == 4) = false := by simpa using k4
              go_wp2_with (go_at_call 171; refine (want_no _ _).mono ?_; rintro e w9 ⟨rfl, rfl⟩)
              refine ⟨rfl, ?_⟩
              exact ⟨HC5.out.but, .inr ⟨HE.out, rfl⟩⟩
        · have HM : Hid (∀ W, St W rb l3 → Calls Tryz.prog 174 #[.pointer (some ⟨rb, 0, none⟩)] W fun e w' => But W.heap.size rb W w' ∧ e = otherP) := fun W hW => by
            refine (rtime_any rb l3 W hW).mono fun e w' h => ?_
            unfold TmEnd at h
            rw [if_neg h8] at h
            exact h
          have HE := hid (HTK.out.no8 h8)
          clear h8
          go_wp2_with (go_at_call 174; refine (HM.out _ HC3.out.st).mono ?_; rintro e w5 ⟨hb5, rfl⟩)
          refine ⟨rfl, ?_⟩
          exact ⟨HC3.out.but.trans (hb5.mono HC3.out.but.size), .inr ⟨HE.out, rfl⟩⟩
      · have hm : ∀ r, l2 ≠ 0 :: 0 :: r := fun r e => hm ⟨r, e⟩
        have HSk : Hid (∀ W, St W rb l2 → Calls Tryz.prog 173 #[.pointer (some ⟨rb, 0, none⟩), .int .u8 0, .int .u8 0] W fun e w' => But W.heap.size rb W w' ∧ e = .returned (.bool false) ∧ St w' rb l2) := fun W hW => by
          refine (skip_any rb _ W hW).mono fun e w' h => ?_
          rcases h with ⟨r', e1, e2, e3, e4⟩ | ⟨e1, e2, e3, e4⟩
          · exact absurd e1 (hm r')
          · exact ⟨e4, e2, e3⟩
        cases h3 : rdT l2 with
        | none =>
          have HT3 : Hid (∀ W, St W rb l2 → Calls Tryz.prog 172 #[.pointer (some ⟨rb, 0, none⟩)] W fun e w' => But W.heap.size rb W w' ∧ e = otherP) := fun W hW => by
            have := rtext_any rb l2 (by omega) W hW
            rwa [h3] at this
          have HE := hid (no_qual H1.out H2.out hm h3)
          clear hm h3
          go_wp2_with (first
            | (go_at_call 173; refine (HSk.out _ HC.out.st).mono ?_; rintro e w3 ⟨hb3, rfl, hS3⟩)
            | (go_at_call 172; refine (HT3.out _ hS3).mono ?_; rintro e w4 ⟨hb4, rfl⟩))
          refine ⟨rfl, ?_⟩
          exact ⟨(HC.out.call hb3 hS3).but.trans (hb4.mono (HC.out.call hb3 hS3).but.size), .inr ⟨HE.out, rfl⟩⟩
        | some p =>
          obtain ⟨q, l3⟩ := p
          have HT3 : Hid (∀ W, St W rb l2 → Calls Tryz.prog 172 #[.pointer (some ⟨rb, 0, none⟩)] W fun e w' => But W.heap.size rb W w' ∧ e = .returned (.string ⟨q.toArray⟩) ∧ St w' rb l3) := fun W hW => by
            have := rtext_any rb l2 (by omega) W hW
            rwa [h3] at this
          have HTK : Hid (Took l r f q false l3) := ⟨_, _, H1.out, H2.out, .inr ⟨rfl, hm, h3⟩⟩
          have HSZ : Hid (r.length ≤ 9223372036854775807 ∧ f.length ≤ 9223372036854775807 ∧ l3.length ≤ 100000) := by
            have a1 := congrArg List.length (rdT_rest H1.out)
            have a2 := congrArg List.length (rdT_rest H2.out)
            have a5 := congrArg List.length (rdT_rest h3)
            have a3 := esc_ge r
            have a4 := esc_ge f
            simp at a1 a2 a5 hl2
            exact ⟨by omega, by omega, by omega⟩
          clear H1 H2 hl1 hl2 hm h3
          go_upto_region 5 with (first
            | (go_at_call 173; refine (HSk.out _ HC.out.st).mono ?_; rintro e w3 ⟨hb3, rfl, hS3⟩)
            | (go_at_call 172; refine (HT3.out _ hS3).mono ?_; rintro e w4 ⟨hb4, rfl, hS4⟩; have HC4 := hid ((HC.out.call hb3 hS3).call hb4 hS4); have c2 : w4.cell? ⟨cb, 2, none⟩ = some (.string ⟨#[]⟩) := HC4.out.cell 2; have f2 : w4.frozen? ⟨cb, 2, none⟩ = false := HC4.out.c.free 2))
          refine wp_ltr (fun W => CSt w W rb cb #[.string ⟨r.toArray⟩, .string ⟨f.toArray⟩, .string ⟨q.toArray⟩, .int .i64 0, .int .i64 0, .int .i64 0, .int .i64 0, .string ⟨#[]⟩] l3) (HC4.out.set 2 _) (fun W3 hC3 => ?_)
          have HC3 := hid hC3
          clear hC3 hb3 hS3 hb4 hS4 HC HC4 c2 f2 HSk HT3
          by_cases h8 : 8 ≤ l3.length
          · obtain ⟨T, hT⟩ : ∃ T : Int, 9223372036854775807 - (foldB (l3.take 8) : Int) = T := ⟨_, rfl⟩
            have HM : Hid (∀ W, St W rb l3 → Calls Tryz.prog 174 #[.pointer (some ⟨rb, 0, none⟩)] W fun e w' => But W.heap.size rb W w' ∧ e = .returned (.int .i64 T) ∧ St w' rb (l3.drop 8)) := fun W hW => by
              refine (rtime_any rb l3 W hW).mono fun e w' h => ?_
              unfold TmEnd at h
              rw [if_pos h8, hT] at h
              exact ⟨h.1, h.2.1, h.2.2⟩
            have c3 : W3.cell? ⟨cb, 3, none⟩ = some (.int .i64 0) := HC3.out.cell 3
            cases hd : l3.drop 8 with
            | nil =>
              rw [hd] at HM
              have HE := hid (HTK.out.no9 hd)
              have HO : Hid (∀ W, St W rb [] → Calls Tryz.prog 170 #[.pointer (some ⟨rb, 0, none⟩)] W (OneEnd W rb [])) := fun W h => one_any rb [] W h
              clear hd hT
              go_wp2_with (first
                | (go_at_call 174; refine (HM.out _ HC3.out.st).mono ?_; rintro e w5 ⟨hb5, rfl, hS5⟩; have HC4 := hid ((HC3.out.call hb5 hS5).set 3 (.int .i64 T)); have c3' : w5.cell? ⟨cb, 3, none⟩ = some (.int .i64 0) := (HC3.out.call hb5 hS5).cell 3; have f3 : w5.frozen? ⟨cb, 3, none⟩ = false := (HC3.out.call hb5 hS5).c.free 3)
                | (go_at_call 170; refine (HO.out _ HC4.out.st).mono ?_; rintro e w6 ⟨hb6, rfl⟩))
              refine ⟨rfl, ?_⟩
              exact ⟨HC4.out.but.trans (hb6.mono HC4.out.but.size), .inr ⟨HE.out, rfl⟩⟩
            | cons x V =>
              rw [hd] at HM
              obtain ⟨z, hz⟩ : ∃ z : Int, (x.toNat : Int) = z := ⟨_, rfl⟩
              have HO : Hid (∀ W, St W rb (x :: V) → Calls Tryz.prog 170 #[.pointer (some ⟨rb, 0, none⟩)] W fun e w' => But W.heap.size rb W w' ∧ e = .returned (.int .u8 z) ∧ St w' rb V) := fun W h => one_cons rb x V W h z hz
              have hx := u8_lt x
              have hz0 : 0 ≤ z := by omega
              have hz1 : z < 256 := by omega
              have HD0 := hid (And.intro hd (And.intro hT (And.intro hz h8)))
              clear hd hT hz hx h8
              go_upto_region 7 with (first
                | (go_at_call 174; refine (HM.out _ HC3.out.st).mono ?_; rintro e w5 ⟨hb5, rfl, hS5⟩; have HC4 := hid ((HC3.out.call hb5 hS5).set 3 (.int .i64 T)); have c3' : w5.cell? ⟨cb, 3, none⟩ = some (.int .i64 0) := (HC3.out.call hb5 hS5).cell 3; have f3 : w5.frozen? ⟨cb, 3, none⟩ = false := (HC3.out.call hb5 hS5).c.free 3)
                | (go_at_call 170; refine (HO.out _ HC4.out.st).mono ?_; rintro e w6 ⟨hb6, rfl, hS6⟩; have HC5 := hid (HC4.out.call hb6 hS6); have c4 : w6.cell? ⟨cb, 4, none⟩ = some (.int .i64 0) := HC5.out.cell 4; have f4 : w6.frozen? ⟨cb, 4, none⟩ = false := HC5.out.c.free 4))
              refine wp_ltr (fun W => CSt w W rb cb #[.string ⟨r.toArray⟩, .string ⟨f.toArray⟩, .string ⟨q.toArray⟩, .int .i64 T, .int .i64 (255 - z), .int .i64 0, .int .i64 0, .string ⟨#[]⟩] V) (HC5.out.set 4 _) (fun W5 hC5 => ?_)
              clear HM HO HC4 HC5 hb5 hb6 hS5 hS6 c3 c3' f3 c4 f4 HC3
              obtain ⟨k, hk⟩ : ∃ k : Int, 255 - z = k := ⟨_, rfl⟩
              rw [hk] at hC5
              try rw [hk]
              have HC5 := hid hC5
              have HKK : Hid (255 - (x.toNat : Int) = k) := by have := HD0.out.2.2.1; unfold Hid; omega
              clear hC5 hk hz0 hz1
              have g4 : W5.cell? ⟨cb, 4, none⟩ = some (.int .i64 k) := HC5.out.cell 4
              by_cases k4 : k = 4
              · have HE : Hid (NoCell l) := HTK.out.noKind HD0.out.1 (by rw [HKK.out]; simpa using k4)
                subst k4
                go_wp2_with (go_at_call 171; refine (want_no _ _).mono ?_; rintro e w9 ⟨rfl, rfl⟩)
                refine ⟨rfl, ?_⟩
                exact ⟨HC5.out.but, .inr ⟨HE.out, rfl⟩⟩
              · have HD : Hid (l3.drop 8 = x :: V ∧ T = 9223372036854775807 - (foldB (l3.take 8) : Int) ∧ 255 - (x.toNat : Int) = k ∧ 8 ≤ l3.length ∧ false = decide (255 - (x.toNat : Int) = 4)) := ⟨HD0.out.1, HD0.out.2.1.symm, HKK.out, HD0.out.2.2.2, by rw [HKK.out]; simpa using k4⟩
                have q4 : (k == 4) = false := by simpa using k4
                by_cases k1 : k = 1
                · subst k1
                  have hst := HC5.out.st
                  obtain ⟨⟨v, hv, A, c, rfl, hs2, hs3, hs4⟩, hs5, hs6⟩ := hst
                  have hVl : V.length ≤ 100000 := by have := congrArg List.length HD.out.1; simp at this; have := HSZ.out.2.2; omega
                  have HV : Hid (∀ W', Below rb w W' → HoldsA W' A V → Calls Tryz.prog 175 #[.slice A V.length c] W' fun e w' => e = vdecEnd V ∧ Below W'.heap.size W' w') := fun W' hW' hA => vdecode_any V hVl A c hs2 W' hA (HL.out W' hW')
                  have HA : Hid (HoldsA W5 A V) := fun h0 => by
                    obtain ⟨b, off, e1, e2, e3⟩ := hs4 h0
                    exact ⟨b, off, e1, e3⟩
                  have HBW : Hid (Below rb w W5) := (HC5.out.but.low HLT.out)
                  clear hs2 hs3 hs4 hs5 hs6 hVl
                  rcases vdec_cases V with ⟨vk, vn, vs, hi, hvr, hvl, hve, hvd⟩ | hvd
                  · rw [hvd] at HV
                    unfold valEnd at HV
                    have HQ := hid (And.intro hi (And.intro hvr (And.intro hve (And.intro hvd hvl))))
                    clear hi hvr hve hvd hvl
                    go_upto_region 13 with (first
                      | (go_at_call 175; refine (HV.out _ HBW.out HA.out).mono ?_; rintro e w6 ⟨rfl, hb6⟩; have HC6 := hid (HC5.out.below hb6); have c5 : w6.cell? ⟨cb, 5, none⟩ = some (.int .i64 0) := HC6.out.cell 5; have c6 : w6.cell? ⟨cb, 6, none⟩ = some (.int .i64 0) := HC6.out.cell 6; have c7 : w6.cell? ⟨cb, 7, none⟩ = some (.string ⟨#[]⟩) := HC6.out.cell 7; have cf : ∀ j, w6.frozen? ⟨cb, j, none⟩ = false := (fun j => HC6.out.c.free j); have hcl : cb < w6.heap.size := HC6.out.c.lt)
                      | (go_at_call 171; ((with_reducible refine (want_yes _ _).mono ?_); rintro e w9 ⟨rfl, rfl⟩)))
                    refine wp_ltr (fun W => CSt w W rb cb #[.string ⟨r.toArray⟩, .string ⟨f.toArray⟩, .string ⟨q.toArray⟩, .int .i64 T, .int .i64 1, .int .i64 vk, .int .i64 vn, .string ⟨vs.toArray⟩] V) ((((HC6.out.set 5 (.int .i64 vk)).set 6 (.int .i64 vn)).set 7 (.string ⟨vs.toArray⟩)).below (below_new _ _)) (fun W7 hC7 => ?_)
                    have HCw := hid hC7
                    clear hC7 c5 c6 c7 cf hcl HC6 HV HA hb6 HBW g4 hv
                    have HR : Hid (∀ W', Below rb w W' → Calls Tryz.prog 98 #[cellV ⟨r.toArray⟩ ⟨f.toArray⟩ ⟨q.toArray⟩ T 1 vk vn ⟨vs.toArray⟩] W' fun e w' => e = .returned (.bool (cRight r f q T 1 vk vn vs)) ∧ Below W'.heap.size W' w') :=
                      fun W' hW' => cright_any ⟨r.toArray⟩ ⟨f.toArray⟩ ⟨q.toArray⟩ ⟨vs.toArray⟩ T 1 vk (vn := vn) HQ.out.1 (by rw [mk_size]; exact HSZ.out.2.1) (by rw [mk_size]; have := HQ.out.2.2.2.2; omega) W' (HL.out W' hW')
                    have HBW : Hid (Below rb w W7) := (HCw.out.but.low HLT.out)
                    have g0 : W7.cell? ⟨cb, 0, none⟩ = some (.string ⟨r.toArray⟩) := HCw.out.cell 0
                    have g1 : W7.cell? ⟨cb, 1, none⟩ = some (.string ⟨f.toArray⟩) := HCw.out.cell 1
                    have g2 : W7.cell? ⟨cb, 2, none⟩ = some (.string ⟨q.toArray⟩) := HCw.out.cell 2
                    have g3 : W7.cell? ⟨cb, 3, none⟩ = some (.int .i64 T) := HCw.out.cell 3
                    have g4 : W7.cell? ⟨cb, 4, none⟩ = some (.int .i64 1) := HCw.out.cell 4
                    have g5 : W7.cell? ⟨cb, 5, none⟩ = some (.int .i64 vk) := HCw.out.cell 5
                    have g6 : W7.cell? ⟨cb, 6, none⟩ = some (.int .i64 vn) := HCw.out.cell 6
                    have g7 : W7.cell? ⟨cb, 7, none⟩ = some (.string ⟨vs.toArray⟩) := HCw.out.cell 7
                    cases hr : cRight r f q T 1 vk vn vs with
                    | false =>
                      rw [hr] at HR
                      have HE : Hid (NoCell l) := HTK.out.noRightV HD.out.1 HD.out.2.2.1 HQ.out.2.2.2.1 (by rw [← HD.out.2.1]; exact hr)
                      clear hr
                      go_wp2_with (first
                        | (go_at_call 98; refine (HR.out _ HBW.out).mono ?_; rintro e w8 ⟨rfl, hb8⟩)
                        | (go_at_call 171; refine (want_no _ _).mono ?_; rintro e w9 ⟨rfl, rfl⟩))
                      refine ⟨rfl, ?_⟩
                      exact ⟨(HCw.out.below hb8).but, .inr ⟨HE.out, rfl⟩⟩
                    | true =>
                      rw [hr] at HR
                      have HE : Hid (cRight r f q T 1 vk vn vs = true ∧ inI vn ∧ cEnc r f q T 1 vk vn vs = l) := ⟨hr, HQ.out.1, by have := HTK.out.enc HD.out.2.2.2.1 HD.out.1 HD.out.2.2.2.2 (vk := vk) (vn := vn) (vs := vs) (by unfold vPart; rw [if_pos HD.out.2.2.1]; exact HQ.out.2.2.1); rwa [← HD.out.2.1, HD.out.2.2.1] at this⟩
                      clear hr
                      go_upto_region 14 with (first
                        | (go_at_call 98; refine (HR.out _ HBW.out).mono ?_; rintro e w8 ⟨rfl, hb8⟩)
                        | (go_at_call 171; refine (want_yes _ _).mono ?_; rintro e w9 ⟨rfl, rfl⟩))
                      have HC8 := hid (HCw.out.below hb8)
                      clear g0 g1 g2 g3 g4 g5 g6 g7
                      have g0 : w8.cell? ⟨cb, 0, none⟩ = some (.string ⟨r.toArray⟩) := HC8.out.cell 0
                      have g1 : w8.cell? ⟨cb, 1, none⟩ = some (.string ⟨f.toArray⟩) := HC8.out.cell 1
                      have g2 : w8.cell? ⟨cb, 2, none⟩ = some (.string ⟨q.toArray⟩) := HC8.out.cell 2
                      have g3 : w8.cell? ⟨cb, 3, none⟩ = some (.int .i64 T) := HC8.out.cell 3
                      have g4 : w8.cell? ⟨cb, 4, none⟩ = some (.int .i64 1) := HC8.out.cell 4
                      have g5 : w8.cell? ⟨cb, 5, none⟩ = some (.int .i64 vk) := HC8.out.cell 5
                      have g6 : w8.cell? ⟨cb, 6, none⟩ = some (.int .i64 vn) := HC8.out.cell 6
                      have g7 : w8.cell? ⟨cb, 7, none⟩ = some (.string ⟨vs.toArray⟩) := HC8.out.cell 7
                      have z0 : w8.cell? ⟨w.heap.size, 0, none⟩ = some (.string ⟨#[]⟩) := HC8.out.z.cell 0
                      have z1 : w8.cell? ⟨w.heap.size, 1, none⟩ = some (.string ⟨#[]⟩) := HC8.out.z.cell 1
                      have z2 : w8.cell? ⟨w.heap.size, 2, none⟩ = some (.string ⟨#[]⟩) := HC8.out.z.cell 2
                      have z3 : w8.cell? ⟨w.heap.size, 3, none⟩ = some (.int .i64 0) := HC8.out.z.cell 3
                      have z4 : w8.cell? ⟨w.heap.size, 4, none⟩ = some (.int .i64 0) := HC8.out.z.cell 4
                      have z5 : w8.cell? ⟨w.heap.size, 5, none⟩ = some (.int .i64 0) := HC8.out.z.cell 5
                      have z6 : w8.cell? ⟨w.heap.size, 6, none⟩ = some (.int .i64 0) := HC8.out.z.cell 6
                      have z7 : w8.cell? ⟨w.heap.size, 7, none⟩ = some (.string ⟨#[]⟩) := HC8.out.z.cell 7
                      have zf : ∀ j, w8.frozen? ⟨w.heap.size, j, none⟩ = false := fun j => HC8.out.z.free j
                      have hneq : cb ≠ w.heap.size := by have := HC8.out.lt; omega
                      go_wp2
                      refine bodyPost_ret (v := cellV ⟨r.toArray⟩ ⟨f.toArray⟩ ⟨q.toArray⟩ T 1 vk vn ⟨vs.toArray⟩) (by simp [results, Tryz.results153, go_sem, cell_set_same, z0, z1, z2, z3, z4, z5, z6, z7]) rfl ?_
                      refine ⟨?_, .inl ⟨r, f, q, T, 1, vk, vn, vs, HE.out.1, HE.out.2.1, HE.out.2.2, rfl⟩⟩
                      have hB := HC8.out.but
                      exact (((((((hB.setO (Nat.le_refl _) _ _).setO (Nat.le_refl _) _ _).setO (Nat.le_refl _) _ _).setO (Nat.le_refl _) _ _).setO (Nat.le_refl _) _ _).setO (Nat.le_refl _) _ _).setO (Nat.le_refl _) _ _).setO (Nat.le_refl _) _ _
                  · have HE : Hid (NoCell l) := HTK.out.noVal HD.out.1 HD.out.2.2.1 hvd
                    rw [hvd] at HV
                    unfold noEnd at HV
                    clear hvd
                    go_wp2_with (first
                      | (go_at_call 175; refine (HV.out _ HBW.out HA.out).mono ?_; rintro e w6 ⟨rfl, hb6⟩; have HC6 := hid (HC5.out.below hb6))
                      | (go_at_call 171; ((with_reducible refine (want_yes _ _).mono ?_); rintro e w9 ⟨rfl, rfl⟩))
                      | (go_at_call 171; ((with_reducible refine (want_no _ _).mono ?_); rintro e w9 ⟨rfl, rfl⟩)))
                    refine ⟨rfl, ?_⟩
                    exact ⟨(HC6.out.below (below_new _ _)).but, .inr ⟨HE.out, rfl⟩⟩
                · have q1 : (k == 1) = false := by simpa using k1
                  have K1 := hid k1
                  clear k1
                  cases V with
                  | cons y V =>
                    have HE : Hid (NoCell l) := HTK.out.noRest HD.out.1 (by rw [HD.out.2.2.1]; exact K1.out) (by simp)
                    have hst := HC5.out.st
                    obtain ⟨⟨v, hv, A, c, rfl, hs2, hs3, hs4⟩, hs5, hs6⟩ := hst
                    have hv : W5.cell? ⟨rb, 0, none⟩ = some (.slice A (V.length + 1) c) := hv
                    have q9 : ((V.length : Int) + 1 == 0) = false := by simp; omega
                    clear hs2 hs3 hs4 hs5 hs6
                    go_wp2_with (first
                      | (go_at_call 171; ((with_reducible refine (want_yes _ _).mono ?_); rintro e w9 ⟨rfl, rfl⟩))
                      | (go_at_call 171; ((with_reducible refine (want_no _ _).mono ?_); rintro e w9 ⟨rfl, rfl⟩)))
                    refine ⟨rfl, ?_⟩
                    exact ⟨HC5.out.but, .inr ⟨HE.out, rfl⟩⟩
                  | nil =>
                    have hst := HC5.out.st
                    obtain ⟨⟨v, hv, A, c, rfl, hs2, hs3, hs4⟩, hs5, hs6⟩ := hst
                    have hv : W5.cell? ⟨rb, 0, none⟩ = some (.slice A 0 c) := hv
                    clear hs2 hs3 hs4 hs5 hs6
                    go_upto_region 13 with (first
                      | (go_at_call 171; ((with_reducible refine (want_yes _ _).mono ?_); rintro e w9 ⟨rfl, rfl⟩)))
                    clear hv k4
                    have HCw := HC5
                    have HR : Hid (∀ W', Below rb w W' → Calls Tryz.prog 98 #[cellV ⟨r.toArray⟩ ⟨f.toArray⟩ ⟨q.toArray⟩ T k 0 0 ⟨#[]⟩] W' fun e w' => e = .returned (.bool (cRight r f q T k 0 0 [])) ∧ Below W'.heap.size W' w') :=
                      fun W' hW' => cright_any ⟨r.toArray⟩ ⟨f.toArray⟩ ⟨q.toArray⟩ ⟨#[]⟩ T k 0 (vn := 0) (by unfold inI; omega) (by rw [mk_size]; exact HSZ.out.2.1) (by decide) W' (HL.out W' hW')
                    have HBW : Hid (Below rb w W5) := (HCw.out.but.low HLT.out)
                    have g0 : W5.cell? ⟨cb, 0, none⟩ = some (.string ⟨r.toArray⟩) := HCw.out.cell 0
                    have g1 : W5.cell? ⟨cb, 1, none⟩ = some (.string ⟨f.toArray⟩) := HCw.out.cell 1
                    have g2 : W5.cell? ⟨cb, 2, none⟩ = some (.string ⟨q.toArray⟩) := HCw.out.cell 2
                    have g3 : W5.cell? ⟨cb, 3, none⟩ = some (.int .i64 T) := HCw.out.cell 3
                    have g4 : W5.cell? ⟨cb, 4, none⟩ = some (.int .i64 k) := HCw.out.cell 4
                    have g5 : W5.cell? ⟨cb, 5, none⟩ = some (.int .i64 0) := HCw.out.cell 5
                    have g6 : W5.cell? ⟨cb, 6, none⟩ = some (.int .i64 0) := HCw.out.cell 6
                    have g7 : W5.cell? ⟨cb, 7, none⟩ = some (.string ⟨#[]⟩) := HCw.out.cell 7
                    cases hr : cRight r f q T k 0 0 [] with
                    | false =>
                      rw [hr] at HR
                      have HE : Hid (NoCell l) := HTK.out.noRight HD.out.1 (by rw [HD.out.2.2.1]; exact K1.out) (by rw [← HD.out.2.1, HD.out.2.2.1]; exact hr)
                      clear hr
                      go_wp2_with (first
                        | (go_at_call 98; refine (HR.out _ HBW.out).mono ?_; rintro e w8 ⟨rfl, hb8⟩)
                        | (go_at_call 171; refine (want_no _ _).mono ?_; rintro e w9 ⟨rfl, rfl⟩))
                      refine ⟨rfl, ?_⟩
                      exact ⟨(HCw.out.below hb8).but, .inr ⟨HE.out, rfl⟩⟩
                    | true =>
                      rw [hr] at HR
                      have HE : Hid (cRight r f q T k 0 0 [] = true ∧ inI 0 ∧ cEnc r f q T k 0 0 [] = l) := ⟨hr, (by unfold inI; omega), by have := HTK.out.enc HD.out.2.2.2.1 HD.out.1 HD.out.2.2.2.2 (vk := 0) (vn := 0) (vs := []) (by unfold vPart; rw [if_neg (by rw [HD.out.2.2.1]; exact K1.out)]); rwa [← HD.out.2.1, HD.out.2.2.1] at this⟩
                      clear hr
                      go_upto_region 14 with (first
                        | (go_at_call 98; refine (HR.out _ HBW.out).mono ?_; rintro e w8 ⟨rfl, hb8⟩)
                        | (go_at_call 171; refine (want_yes _ _).mono ?_; rintro e w9 ⟨rfl, rfl⟩))
                      have HC8 := hid (HCw.out.below hb8)
                      clear g0 g1 g2 g3 g4 g5 g6 g7
                      have g0 : w8.cell? ⟨cb, 0, none⟩ = some (.string ⟨r.toArray⟩) := HC8.out.cell 0
                      have g1 : w8.cell? ⟨cb, 1, none⟩ = some (.string ⟨f.toArray⟩) := HC8.out.cell 1
                      have g2 : w8.cell? ⟨cb, 2, none⟩ = some (.string ⟨q.toArray⟩) := HC8.out.cell 2
                      have g3 : w8.cell? ⟨cb, 3, none⟩ = some (.int .i64 T) := HC8.out.cell 3
                      have g4 : w8.cell? ⟨cb, 4, none⟩ = some (.int .i64 k) := HC8.out.cell 4
                      have g5 : w8.cell? ⟨cb, 5, none⟩ = some (.int .i64 0) := HC8.out.cell 5
                      have g6 : w8.cell? ⟨cb, 6, none⟩ = some (.int .i64 0) := HC8.out.cell 6
                      have g7 : w8.cell? ⟨cb, 7, none⟩ = some (.string ⟨#[]⟩) := HC8.out.cell 7
                      have z0 : w8.cell? ⟨w.heap.size, 0, none⟩ = some (.string ⟨#[]⟩) := HC8.out.z.cell 0
                      have z1 : w8.cell? ⟨w.heap.size, 1, none⟩ = some (.string ⟨#[]⟩) := HC8.out.z.cell 1
                      have z2 : w8.cell? ⟨w.heap.size, 2, none⟩ = some (.string ⟨#[]⟩) := HC8.out.z.cell 2
                      have z3 : w8.cell? ⟨w.heap.size, 3, none⟩ = some (.int .i64 0) := HC8.out.z.cell 3
                      have z4 : w8.cell? ⟨w.heap.size, 4, none⟩ = some (.int .i64 0) := HC8.out.z.cell 4
                      have z5 : w8.cell? ⟨w.heap.size, 5, none⟩ = some (.int .i64 0) := HC8.out.z.cell 5
                      have z6 : w8.cell? ⟨w.heap.size, 6, none⟩ = some (.int .i64 0) := HC8.out.z.cell 6
                      have z7 : w8.cell? ⟨w.heap.size, 7, none⟩ = some (.string ⟨#[]⟩) := HC8.out.z.cell 7
                      have zf : ∀ j, w8.frozen? ⟨w.heap.size, j, none⟩ = false := fun j => HC8.out.z.free j
                      have hneq : cb ≠ w.heap.size := by have := HC8.out.lt; omega
                      go_wp2
                      refine bodyPost_ret (v := cellV ⟨r.toArray⟩ ⟨f.toArray⟩ ⟨q.toArray⟩ T k 0 0 ⟨#[]⟩) (by simp [results, Tryz.results153, go_sem, cell_set_same, z0, z1, z2, z3, z4, z5, z6, z7]) rfl ?_
                      refine ⟨?_, .inl ⟨r, f, q, T, k, 0, 0, [], HE.out.1, HE.out.2.1, HE.out.2.2, rfl⟩⟩
                      have hB := HC8.out.but
                      exact (((((((hB.setO (Nat.le_refl _) _ _).setO (Nat.le_refl _) _ _).setO (Nat.le_refl _) _ _).setO (Nat.le_refl _) _ _).setO (Nat.le_refl _) _ _).setO (Nat.le_refl _) _ _).setO (Nat.le_refl _) _ _).setO (Nat.le_refl _) _ _
          · have HM : Hid (∀ W, St W rb l3 → Calls Tryz.prog 174 #[.pointer (some ⟨rb, 0, none⟩)] W fun e w' => But W.heap.size rb W w' ∧ e = otherP) := fun W hW => by
              refine (rtime_any rb l3 W hW).mono fun e w' h => ?_
              unfold TmEnd at h
              rw [if_neg h8] at h
              exact h
            have HE := hid (HTK.out.no8 h8)
            clear h8
            go_wp2_with (go_at_call 174; refine (HM.out _ HC3.out.st).mono ?_; rintro e w5 ⟨hb5, rfl⟩)
            refine ⟨rfl, ?_⟩
            exact ⟨HC3.out.but.trans (hb5.mono HC3.out.but.size), .inr ⟨HE.out, rfl⟩⟩
end Go.Proofs.YtjbjdkginemedaaGreatDoor

/- codec.Decode at any bytes: the cell whose bytes they are, or none. Conditions: the slice holds the bytes, four thousand at most; the tables of utf8 read as they are laid. -/
namespace Go.Proofs.YtjbjdkginemedaaGreatDoor
open Go.RowKit

/-- What Decode's closure leaves. -/
def DClo (rb : Nat) (l : List UInt8) (w : World) (e : Ending) (w' : World) : Prop :=
  Below rb w w' ∧ ((∃ (r f q : List UInt8) (t k vk vn : Int) (vs : List UInt8), cRight r f q t k vk vn vs = true ∧ inI vn ∧ cEnc r f q t k vk vn vs = l ∧ e = .returned (.tuple #[]) ∧ Blk w' (rb + 1) 26 #[.string ⟨r.toArray⟩, .string ⟨f.toArray⟩, .string ⟨q.toArray⟩, .int .i64 t, .int .i64 k, .int .i64 vk, .int .i64 vn, .string ⟨vs.toArray⟩]) ∨ (NoCell l ∧ e = otherP ∧ Blk w' (rb + 1) 26 zeroA))

set_option maxRecDepth 100000 in
set_option maxHeartbeats 2000000 in
theorem decclo_any (rb : Nat) (l : List UInt8) (hl : l.length ≤ 100000) (w : World) (h : St w rb l) (hc : Blk w (rb + 1) 26 zeroA) (hL : ∀ W, Below rb w W → LaidU W) :
    Calls Tryz.prog 152 #[.pointer (some ⟨rb, 0, none⟩), .pointer (some ⟨rb + 1, 0, none⟩)] w (DClo rb l w) := by
  have hlt := h.2.2
  have hc1 := hc.lt
  have HX : Hid (∀ e w', CellEnd rb l w e w' → Below rb w w' ∧ Blk w' (rb + 1) 26 zeroA) := fun e w' h => ⟨(h.1.mono (Nat.le_of_lt hlt)).below (Nat.le_refl _), hc.but h.1 (by omega)⟩
  have HN : Calls Tryz.prog 153 #[.pointer (some ⟨rb, 0, none⟩)] w (CellEnd rb l w) := rcell_any rb l hl w h hL
  by_cases hno : NoCell l
  · have HN := hid (HN.mono fun e w' h => (show e = otherP ∧ Below rb w w' ∧ Blk w' (rb + 1) 26 zeroA from by
      obtain ⟨a, b⟩ := HX.out e w' h
      rcases h.2 with ⟨r, f, q, t, k, vk, vn, vs, h1, h2, h3, _⟩ | ⟨_, h1⟩
      · exact absurd h3 (hno _ _ _ _ _ _ _ _ h1 h2)
      · exact ⟨h1, a, b⟩))
    have HE := hid hno
    clear h hc hL hlt hc1 HX hno
    go_enter Tryz.func152, Tryz.ntmps152
    go_wp2_with (go_at_call 153; refine HN.out.mono ?_; rintro e w1 ⟨rfl, hb, hB⟩)
    refine ⟨rfl, ?_⟩
    exact ⟨hb, .inr ⟨HE.out, rfl, hB⟩⟩
  · have HN := hid (HN.mono fun e w' h => (show ∃ (r f q : List UInt8) (t k vk vn : Int) (vs : List UInt8), Hid (cRight r f q t k vk vn vs = true ∧ inI vn ∧ cEnc r f q t k vk vn vs = l) ∧ e = .returned (cellV ⟨r.toArray⟩ ⟨f.toArray⟩ ⟨q.toArray⟩ t k vk vn ⟨vs.toArray⟩) ∧ Below rb w w' ∧ Blk w' (rb + 1) 26 zeroA from by
      obtain ⟨a, b⟩ := HX.out e w' h
      rcases h.2 with ⟨r, f, q, t, k, vk, vn, vs, h1, h2, h3, h4⟩ | ⟨h0, _⟩
      · exact ⟨r, f, q, t, k, vk, vn, vs, ⟨h1, h2, h3⟩, h4, a, b⟩
      · exact absurd h0 hno))
    clear h hc hL hlt hc1 HX hno
    go_enter Tryz.func152, Tryz.ntmps152
    go_wp2_with (go_at_call 153; refine HN.out.mono ?_; rintro e w1 ⟨r, f, q, t, k, vk, vn, vs, HQ, rfl, hb, hB⟩; have HB := hid hB; have z0 : w1.cell? ⟨rb + 1, 0, none⟩ = some (.string ⟨#[]⟩) := hB.cell 0; have z1 : w1.cell? ⟨rb + 1, 1, none⟩ = some (.string ⟨#[]⟩) := hB.cell 1; have z2 : w1.cell? ⟨rb + 1, 2, none⟩ = some (.string ⟨#[]⟩) := hB.cell 2; have z3 : w1.cell? ⟨rb + 1, 3, none⟩ = some (.int .i64 0) := hB.cell 3; have z4 : w1.cell? ⟨rb + 1, 4, none⟩ = some (.int .i64 0) := hB.cell 4; have z5 : w1.cell? ⟨rb + 1, 5, none⟩ = some (.int .i64 0) := hB.cell 5; have z6 : w1.cell? ⟨rb + 1, 6, none⟩ = some (.int .i64 0) := hB.cell 6; have z7 : w1.cell? ⟨rb + 1, 7, none⟩ = some (.string ⟨#[]⟩) := hB.cell 7; have zf : ∀ j, w1.frozen? ⟨rb + 1, j, none⟩ = false := (fun j => hB.free j); clear hB)
    go_end0
    have hr1 : rb ≤ rb + 1 := by omega
    refine ⟨(((((((hb.setCell (p := ⟨rb + 1, 0, none⟩) hr1 _).setCell (p := ⟨rb + 1, 1, none⟩) hr1 _).setCell (p := ⟨rb + 1, 2, none⟩) hr1 _).setCell (p := ⟨rb + 1, 3, none⟩) hr1 _).setCell (p := ⟨rb + 1, 4, none⟩) hr1 _).setCell (p := ⟨rb + 1, 5, none⟩) hr1 _).setCell (p := ⟨rb + 1, 6, none⟩) hr1 _).setCell (p := ⟨rb + 1, 7, none⟩) hr1 _, .inl ⟨r, f, q, t, k, vk, vn, vs, HQ.out.1, HQ.out.2.1, HQ.out.2.2, rfl, ?_⟩⟩
    exact (((((((HB.out.set 0 (.string ⟨r.toArray⟩)).set 1 (.string ⟨f.toArray⟩)).set 2 (.string ⟨q.toArray⟩)).set 3 (.int .i64 t)).set 4 (.int .i64 k)).set 5 (.int .i64 vk)).set 6 (.int .i64 vn)).set 7 (.string ⟨vs.toArray⟩)

set_option maxHeartbeats 1000000 in
/-- holds over Decode's closure: it ended. -/
theorem holdsD_yes (rb : Nat) (w : World) (Q : World → Prop) (H : Calls Tryz.prog 152 #[.pointer (some ⟨rb, 0, none⟩), .pointer (some ⟨rb + 1, 0, none⟩)] w fun e w' => e = .returned (.tuple #[]) ∧ Q w') :
    Calls Tryz.prog 149 #[.func (.func 152) #[] #[.pointer (some ⟨rb, 0, none⟩), .pointer (some ⟨rb + 1, 0, none⟩)]] w fun e w' => e = .returned (.bool true) ∧ Q w' := by
  have H := hid H
  go_enter_defers Tryz.func149, Tryz.ntmps149
  go_wp2_with (go_at_call 152; refine H.out.mono ?_; rintro e w1 ⟨rfl, hQ⟩)
  refine leaves_cons (f := 169) (args := #[]) (by simp) (by simp [go_sem]) ?_
  refine (catch_none _).mono ?_
  rintro e u' w2 ⟨rfl, rfl, rfl⟩
  simp only [Leaves, settle, results, Tryz.results149, go_sem]
  simp
  exact hQ

set_option maxHeartbeats 1000000 in
/-- holds over Decode's closure: it met something else. -/
theorem holdsD_no (rb : Nat) (w : World) (Q : World → Prop) (hQ : ∀ w1 w2, Q w1 → Below w1.heap.size w1 w2 → Q w2) (H : Calls Tryz.prog 152 #[.pointer (some ⟨rb, 0, none⟩), .pointer (some ⟨rb + 1, 0, none⟩)] w fun e w' => e = otherP ∧ Q w') :
    Calls Tryz.prog 149 #[.func (.func 152) #[] #[.pointer (some ⟨rb, 0, none⟩), .pointer (some ⟨rb + 1, 0, none⟩)]] w fun e w' => e = .returned (.bool false) ∧ Q w' := by
  have H := hid H
  have HQ := hid hQ
  clear hQ
  go_enter_defers Tryz.func149, Tryz.ntmps149
  go_wp2_with (go_at_call 152; refine H.out.mono ?_; rintro e w1 ⟨rfl, hq⟩)
  refine leaves_cons (f := 169) (args := #[]) (by simp) (by simp [go_sem]) ?_
  refine (catch_other [] _).mono ?_
  rintro e u' w2 ⟨rfl, rfl, hb2⟩
  simp [Leaves, settle, results, Tryz.results149, go_sem]
  exact HQ.out _ _ hq hb2

/-- What Decode answers. -/
def DEnd (l : List UInt8) (w : World) (e : Ending) (w' : World) : Prop :=
  Below w.heap.size w w' ∧ ((∃ (r f q : List UInt8) (t k vk vn : Int) (vs : List UInt8), cRight r f q t k vk vn vs = true ∧ inI vn ∧ cEnc r f q t k vk vn vs = l ∧ e = .returned (.tuple #[cellV ⟨r.toArray⟩ ⟨f.toArray⟩ ⟨q.toArray⟩ t k vk vn ⟨vs.toArray⟩, .bool true])) ∨ (NoCell l ∧ e = .returned (.tuple #[cellV ⟨#[]⟩ ⟨#[]⟩ ⟨#[]⟩ 0 0 0 0 ⟨#[]⟩, .bool false])))

set_option maxRecDepth 100000 in
set_option maxHeartbeats 2000000 in
theorem decode_walk (A : Option Addr) (m c : Nat) (w : World) (ok : Bool) (r f q vs : ByteArray) (t k vk vn : Int)
    (HH : Calls Tryz.prog 149 #[.func (.func 152) #[] #[.pointer (some ⟨w.heap.size + 1, 0, none⟩), .pointer (some ⟨w.heap.size + 2, 0, none⟩)]] (((w.alloc (.cells zeroA 26)).alloc (.cells #[.slice A m c] 152)).alloc (.cells zeroA 26)) fun e w' => e = .returned (.bool ok) ∧ Below (w.heap.size + 1) (((w.alloc (.cells zeroA 26)).alloc (.cells #[.slice A m c] 152)).alloc (.cells zeroA 26)) w' ∧ Blk w' (w.heap.size + 2) 26 #[.string r, .string f, .string q, .int .i64 t, .int .i64 k, .int .i64 vk, .int .i64 vn, .string vs]) :
    Calls Tryz.prog 117 #[.slice A m c] w fun e w' => e = .returned (.tuple #[cellV r f q t k vk vn vs, .bool ok]) ∧ Below w.heap.size w w' := by
  have hmf : ∀ (fn : Fn) (first cap : Array Value) (w : World), (Instr.makeFunc fn first cap).run Tryz.prog w = .ok (.func fn first cap) w := fun _ _ _ _ => rfl
  have HZ : Hid (∀ w', Below (w.heap.size + 1) (((w.alloc (.cells zeroA 26)).alloc (.cells #[.slice A m c] 152)).alloc (.cells zeroA 26)) w' → Blk w' w.heap.size 26 zeroA) := fun w' h => (((Blk.new w _ _).keep (below_new _ (.cells #[.slice A m c] 152)) (by simp)).keep (below_new _ (.cells zeroA 26)) (by simp; omega)).keep h (by omega)
  have HH := hid HH
  go_enter Tryz.func117, Tryz.ntmps117
  go_wp2_with (go_at_call 149; refine HH.out.mono ?_; rintro e w1 ⟨rfl, hb, hB⟩; have hZ := HZ.out w1 hb; have HB := hid hb; have z0 : w1.cell? ⟨w.heap.size + 2, 0, none⟩ = some (.string r) := hB.cell 0; have z1 : w1.cell? ⟨w.heap.size + 2, 1, none⟩ = some (.string f) := hB.cell 1; have z2 : w1.cell? ⟨w.heap.size + 2, 2, none⟩ = some (.string q) := hB.cell 2; have z3 : w1.cell? ⟨w.heap.size + 2, 3, none⟩ = some (.int .i64 t) := hB.cell 3; have z4 : w1.cell? ⟨w.heap.size + 2, 4, none⟩ = some (.int .i64 k) := hB.cell 4; have z5 : w1.cell? ⟨w.heap.size + 2, 5, none⟩ = some (.int .i64 vk) := hB.cell 5; have z6 : w1.cell? ⟨w.heap.size + 2, 6, none⟩ = some (.int .i64 vn) := hB.cell 6; have z7 : w1.cell? ⟨w.heap.size + 2, 7, none⟩ = some (.string vs) := hB.cell 7; have r0 : w1.cell? ⟨w.heap.size, 0, none⟩ = some (.string ⟨#[]⟩) := hZ.cell 0; have r1 : w1.cell? ⟨w.heap.size, 1, none⟩ = some (.string ⟨#[]⟩) := hZ.cell 1; have r2 : w1.cell? ⟨w.heap.size, 2, none⟩ = some (.string ⟨#[]⟩) := hZ.cell 2; have r3 : w1.cell? ⟨w.heap.size, 3, none⟩ = some (.int .i64 0) := hZ.cell 3; have r4 : w1.cell? ⟨w.heap.size, 4, none⟩ = some (.int .i64 0) := hZ.cell 4; have r5 : w1.cell? ⟨w.heap.size, 5, none⟩ = some (.int .i64 0) := hZ.cell 5; have r6 : w1.cell? ⟨w.heap.size, 6, none⟩ = some (.int .i64 0) := hZ.cell 6; have r7 : w1.cell? ⟨w.heap.size, 7, none⟩ = some (.string ⟨#[]⟩) := hZ.cell 7; have zf : ∀ j, w1.frozen? ⟨w.heap.size, j, none⟩ = false := (fun j => hZ.free j); clear hB hZ hb)
  refine bodyPost_ret (v := .tuple #[cellV r f q t k vk vn vs, .bool ok]) (by simp [results, Tryz.results117, go_sem, cell_set_same, r0, r1, r2, r3, r4, r5, r6, r7]) rfl ?_
  refine ⟨rfl, ?_⟩
  have hb : Below w.heap.size w w1 := (((below_new w _).alloc (by simp) _).alloc (by simp; omega) _).trans (HB.out.mono (by omega))
  exact (((((((hb.setCell (p := ⟨w.heap.size, 0, none⟩) (Nat.le_refl _) _).setCell (p := ⟨w.heap.size, 1, none⟩) (Nat.le_refl _) _).setCell (p := ⟨w.heap.size, 2, none⟩) (Nat.le_refl _) _).setCell (p := ⟨w.heap.size, 3, none⟩) (Nat.le_refl _) _).setCell (p := ⟨w.heap.size, 4, none⟩) (Nat.le_refl _) _).setCell (p := ⟨w.heap.size, 5, none⟩) (Nat.le_refl _) _).setCell (p := ⟨w.heap.size, 6, none⟩) (Nat.le_refl _) _).setCell (p := ⟨w.heap.size, 7, none⟩) (Nat.le_refl _) _

theorem two_blocks (w : World) (A : Option Addr) (m c : Nat) : let W := (((w.alloc (.cells zeroA 26)).alloc (.cells #[.slice A m c] 152)).alloc (.cells zeroA 26))
    W.cell? ⟨w.heap.size + 1, 0, none⟩ = some (.slice A m c) ∧ W.frozen? ⟨w.heap.size + 1, 0, none⟩ = false ∧ Blk W (w.heap.size + 1 + 1) 26 zeroA ∧ W.heap.size = w.heap.size + 3 ∧ Below w.heap.size w W := by
  have b1 : Blk ((w.alloc (.cells zeroA 26)).alloc (.cells #[.slice A m c] 152)) (w.heap.size + 1) 152 #[.slice A m c] := by have := Blk.new (w.alloc (.cells zeroA 26)) 152 #[.slice A m c]; simpa using this
  have b2 : Blk (((w.alloc (.cells zeroA 26)).alloc (.cells #[.slice A m c] 152)).alloc (.cells zeroA 26)) (w.heap.size + 1 + 1) 26 zeroA := by have := Blk.new ((w.alloc (.cells zeroA 26)).alloc (.cells #[.slice A m c] 152)) 26 zeroA; simpa using this
  have b3 := b1.keep (below_new _ (.cells zeroA 26)) (by simp)
  exact ⟨b3.cell 0, b3.free 0, b2, by simp, ((below_new w _).alloc (by simp) _).alloc (by simp; omega) _⟩

theorem cdecode_any (A : Option Addr) (c : Nat) (l : List UInt8) (hl : l.length ≤ 100000) (hc : l.length ≤ c) (hc2 : c ≤ 9223372036854775807) (w : World) (h : HoldsA w A l) (hL : LaidU w) :
    Calls Tryz.prog 117 #[.slice A l.length c] w (DEnd l w) := by
  obtain ⟨h1, h2, h3, h4, h5⟩ := two_blocks w A l.length c
  obtain ⟨W, hW⟩ : ∃ W, (((w.alloc (.cells zeroA 26)).alloc (.cells #[.slice A l.length c] 152)).alloc (.cells zeroA 26)) = W := ⟨_, rfl⟩
  rw [hW] at h1 h2 h3 h4 h5
  have hS : St W (w.heap.size + 1) l := by
    refine ⟨⟨_, h1, A, c, rfl, hc, hc2, fun h0 => ?_⟩, h2, by rw [h4]; omega⟩
    obtain ⟨b, off, e1, e2⟩ := h h0
    exact ⟨b, off, e1, Nat.lt_succ_of_lt (e2.lt h0), e2.below h5 (e2.lt h0)⟩
  have H := decclo_any (w.heap.size + 1) l hl _ hS h3 (fun W' hW' => hL.below (h5.trans (hW'.mono (by omega))))
  by_cases hno : NoCell l
  · refine (decode_walk A l.length c w false ⟨#[]⟩ ⟨#[]⟩ ⟨#[]⟩ ⟨#[]⟩ 0 0 0 0 ?_).mono fun e w' ⟨he, hb⟩ => ⟨hb, .inr ⟨hno, he⟩⟩
    rw [hW]
    refine (holdsD_no (w.heap.size + 1) _ (fun w' => Below (w.heap.size + 1) W w' ∧ Blk w' (w.heap.size + 1 + 1) 26 zeroA) ?_ (H.mono fun e w' hx => ?_))
    · rintro w1 w2 ⟨a, b⟩ hb
      exact ⟨a.trans (hb.mono (Nat.le_of_lt (Nat.lt_of_succ_lt b.lt))), b.keep hb b.lt⟩
    · rcases hx.2 with ⟨r, f, q, t, k, vk, vn, vs, h1, h2, h3, _⟩ | ⟨_, h6, h7⟩
      · exact absurd h3 (hno _ _ _ _ _ _ _ _ h1 h2)
      · exact ⟨h6, hx.1, h7⟩
  · have hex : ∃ (r f q : List UInt8) (t k vk vn : Int) (vs : List UInt8), cRight r f q t k vk vn vs = true ∧ inI vn ∧ cEnc r f q t k vk vn vs = l := by
      unfold NoCell at hno
      false_or_by_contra
      rename_i hh
      exact hno fun r f q t k vk vn vs a b e => hh ⟨r, f, q, t, k, vk, vn, vs, a, b, e⟩
    obtain ⟨r, f, q, t, k, vk, vn, vs, g1, g2, g3⟩ := hex
    refine (decode_walk A l.length c w true ⟨r.toArray⟩ ⟨f.toArray⟩ ⟨q.toArray⟩ ⟨vs.toArray⟩ t k vk vn ?_).mono fun e w' ⟨he, hb⟩ => ⟨hb, .inl ⟨r, f, q, t, k, vk, vn, vs, g1, g2, g3, he⟩⟩
    rw [hW]
    refine (holdsD_yes (w.heap.size + 1) _ (fun w' => Below (w.heap.size + 1) W w' ∧ Blk w' (w.heap.size + 1 + 1) 26 #[.string ⟨r.toArray⟩, .string ⟨f.toArray⟩, .string ⟨q.toArray⟩, .int .i64 t, .int .i64 k, .int .i64 vk, .int .i64 vn, .string ⟨vs.toArray⟩]) (H.mono fun e w' hx => ?_))
    rcases hx.2 with ⟨r', f', q', t', k', vk', vn', vs', g1', g2', g3', h6, h7⟩ | ⟨h6, _⟩
    · obtain ⟨rfl, rfl, rfl, rfl, rfl, rfl, rfl, rfl⟩ := cEnc_one g1' g1 g2' g2 (g3'.trans g3.symm)
      exact ⟨h6, hx.1, h7⟩
    · exact absurd h6 hno
end Go.Proofs.YtjbjdkginemedaaGreatDoor
