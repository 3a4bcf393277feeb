/- The reader's number at any bytes: the number and what is left behind it, or the panic. Conditions: the reader holds the bytes. -/
import Derived.Test.YtegdkcldgepngaaDoorSD
namespace Go.Proofs.YtegdkcldgepngaaDoor
open Go.RowKit

def NInv2 (w : World) (rb : Nat) (l : List UInt8) (vn vi : Value) (wr : World) : Prop :=
  ∃ (k n : Nat) (N i : Int) (t : List UInt8), Hid (k ≤ 9 ∧ i = (k : Int) ∧ N = (n : Int) ∧ n < 2 ^ (7 * k)) ∧ vn = .int .i64 N ∧ vi = .int .i64 i ∧ 0 ≤ i ∧
    tk l = (tkGo (9 - k) k t).map (fun p => (n + 2 ^ (7 * k) * p.1, p.2)) ∧ St wr rb t ∧ But w.heap.size rb w wr
def NEndO (w : World) (rb : Nat) : Option (Nat × List UInt8) → Ending → World → Prop
  | some p, e, w' => But w.heap.size rb w w' ∧ e = .returned (.int .i64 (p.1 : Int)) ∧ St w' rb p.2
  | none, e, w' => But w.heap.size rb w w' ∧ e = otherP
def NEnd (w : World) (rb : Nat) (l : List UInt8) (e : Ending) (w' : World) : Prop := NEndO w rb (tk l) e w'

set_option maxRecDepth 100000 in
set_option maxHeartbeats 1000000 in
theorem number_any (rb : Nat) (l : List UInt8) (w : World) (h : St w rb l) :
    Calls Tryd.prog 56 #[.pointer (some ⟨rb, 0, none⟩)] w (NEnd w rb l) := by
  go_enter Tryd.func56, Tryd.ntmps56
  go_wp2
  go_loopw [3, 6] (fun vn vi wr => NInv2 w rb l vn vi wr) (fun _ vi _ => 9 - (intOf vi).toNat)
  case atStart => exact ⟨0, 0, 0, 0, l, ⟨by omega, rfl, rfl, by decide⟩, rfl, rfl, by omega, by unfold tk; simp, h, But.refl _ _ _⟩
  case round =>
    obtain ⟨k, n, N, i, t, HK, rfl, rfl, hi, ht, hS, hb⟩ := hrel
    by_cases h9 : i < 9
    · have HO := hid (one_any rb t wr hS)
      clear hS
      cases t with
      | nil =>
        go_wp2_with (go_at_call 80; refine HO.out.mono ?_; rintro e w1 ⟨hb1, rfl⟩)
        refine ⟨rfl, ?_⟩
        have e : tk l = none := by
          rw [ht]
          cases 9 - k <;> rfl
        unfold NEnd
        rw [e]
        exact ⟨hb.trans (hb1.mono hb.size), rfl⟩
      | cons x t =>
        have hx := u8_lt x
        obtain ⟨y, hy⟩ : ∃ y : Int, ((x.toNat : Nat) : Int) = y := ⟨_, rfl⟩
        have HY := hid hy
        have HO : Hid (Calls Tryd.prog 80 #[.pointer (some ⟨rb, 0, none⟩)] wr fun e w' => But wr.heap.size rb wr w' ∧ e = .returned (.int .u8 y) ∧ St w' rb t) := by rw [← hy]; exact HO.out
        have hy0 : 0 ≤ y := by omega
        have hy1 : y < 256 := by omega
        have HV : Hid (k ≤ 8 ∧ bits .or .i64 N (wrap64 (wrap64 (bits .andNot .u8 y 128) * 2 ^ (7 * i).toNat)) = ((n + 2 ^ (7 * k) * (x.toNat % 128) : Nat) : Int)) := by
          obtain ⟨h1, h2, h3, h4⟩ := HK.out
          have hk8 : k ≤ 8 := by omega
          refine ⟨hk8, ?_⟩
          have hp : (2 : Nat) ^ (7 * k) ≤ 2 ^ 56 := Nat.pow_le_pow_right (by decide) (by omega)
          have hm : 2 ^ (7 * k) * (x.toNat % 128) ≤ 2 ^ 56 * 127 := Nat.mul_le_mul hp (by omega)
          have e1 : wrap64 (bits .andNot .u8 y 128) = ((x.toNat % 128 : Nat) : Int) := by
            rw [← hy, clear_top _ hx]; unfold wrap64; omega
          have e2 : (7 * i).toNat = 7 * k := by omega
          have e3 : ((x.toNat % 128 : Nat) : Int) * 2 ^ (7 * k) = ((2 ^ (7 * k) * (x.toNat % 128) : Nat) : Int) := by
            push_cast
            rw [Int.mul_comm]
          have e4 : wrap64 (((2 ^ (7 * k) * (x.toNat % 128) : Nat) : Int)) = ((2 ^ (7 * k) * (x.toNat % 128) : Nat) : Int) := by
            unfold wrap64; omega
          rw [e1, e2, e3, e4, h3]
          exact or_part n (x.toNat % 128) k h4 (by omega) hk8
        have HT := hid ht
        clear hy hx ht
        by_cases hA : y < 128
        · by_cases hz : y = 0
          · subst hz
            by_cases h0 : i = 0
            · subst h0
              go_wp2_with (first | (go_at_call 80; refine HO.out.mono ?_; rintro e w1 ⟨hb1, rfl, hS1⟩) | (go_at_call 81; refine (want_yes _ _).mono ?_; rintro e w2 ⟨rfl, rfl⟩))
              go_ret
              have hV := HV.out.2
              rw [show (2 : Int) ^ (7 * (0 : Int)).toNat = 1 from rfl, Int.mul_one] at hV
              rw [hV]
              obtain ⟨h1, h2, h3, h4⟩ := HK.out
              have hk : k = 0 := by omega
              have hY : x.toNat = 0 := by have := HY.out; omega
              have e : tk l = some (n + 2 ^ (7 * k) * (x.toNat % 128), t) := by
                rw [HT.out, hk, hY, show 9 - 0 = 8 + 1 by omega, tkGo, hY, if_pos (by omega), if_neg (by omega)]; rfl
              unfold NEnd
              rw [e]
              exact ⟨hb.trans (hb1.mono hb.size), rfl, hS1⟩
            · have hd := hid (show (i == 0) = false by simpa using h0)
              go_wp2_with (first | (go_at_call 80; refine HO.out.mono ?_; rintro e w1 ⟨hb1, rfl, hS1⟩) | (go_at_call 81; rw [hd.out]; refine (want_no _ _).mono ?_; rintro e w2 ⟨rfl, rfl⟩))
              refine ⟨rfl, ?_⟩
              obtain ⟨h1, h2, h3, h4⟩ := HK.out
              have hV := HV.out.1
              have hY : x.toNat = 0 := by have := HY.out; omega
              have e : tk l = none := by
                rw [HT.out, show 9 - k = (9 - (k + 1)) + 1 by omega, tkGo, hY, if_pos (by omega), if_pos (by omega)]; rfl
              unfold NEnd
              rw [e]
              exact ⟨hb.trans (hb1.mono hb.size), rfl⟩
          · go_wp2_with (first | (go_at_call 80; refine HO.out.mono ?_; rintro e w1 ⟨hb1, rfl, hS1⟩) | (go_at_call 81; refine (want_yes _ _).mono ?_; rintro e w2 ⟨rfl, rfl⟩))
            go_ret
            have hV := HV.out.2
            rw [hV]
            obtain ⟨h1, h2, h3, h4⟩ := HK.out
            have hk := HV.out.1
            have hY := HY.out
            have e : tk l = some (n + 2 ^ (7 * k) * (x.toNat % 128), t) := by
              rw [HT.out, show 9 - k = (9 - (k + 1)) + 1 by omega, tkGo, if_pos (by omega), if_neg (by omega)]
              simp only [Option.map_some, Option.some.injEq, Prod.mk.injEq, and_true]
              rw [Nat.mod_eq_of_lt (by omega : x.toNat < 128)]
            unfold NEnd
            rw [e]
            exact ⟨hb.trans (hb1.mono hb.size), rfl, hS1⟩
        · go_wp2_with (go_at_call 80; refine HO.out.mono ?_; rintro e w1 ⟨hb1, rfl, hS1⟩)
          go_roundw
          case rel =>
            obtain ⟨h1, h2, h3, h4⟩ := HK.out
            have hV := HV.out
            have hY := HY.out
            refine ⟨k + 1, n + 2 ^ (7 * k) * (x.toNat % 128), _, i + 1, t, ⟨by omega, by omega, hV.2, ?_⟩, rfl, rfl, by omega, ?_, hS1, hb.trans (hb1.mono hb.size)⟩
            · rw [show 7 * (k + 1) = 7 * k + 7 by omega, Nat.pow_add]
              have hm : 2 ^ (7 * k) * (x.toNat % 128) ≤ 2 ^ (7 * k) * 127 := Nat.mul_le_mul (Nat.le_refl _) (by omega)
              omega
            · rw [HT.out, show 9 - k = (9 - (k + 1)) + 1 by omega, tkGo, if_neg (by omega), Option.map_map]
              congr 1
              funext p
              simp only [Function.comp, Prod.mk.injEq, and_true]
              rw [show 7 * (k + 1) = 7 * k + 7 by omega, Nat.pow_add, Nat.mul_add, Nat.mul_assoc, Nat.add_assoc]
          case measure => simp [intOf]; omega
    · have HT := hid ht
      clear ht
      go_wp2
      refine ⟨rfl, ?_⟩
      have hk : k = 9 := by have := HK.out; omega
      have e := HT.out
      rw [hk] at e
      unfold NEnd
      rw [e]
      exact ⟨hb, rfl⟩
end Go.Proofs.YtegdkcldgepngaaDoor
