/- alive: the numbers that the document fixes are answered. Conditions: the table of math/bits reads as it is laid. -/
import Derived.Test.YtlfpaipbdlhefaaDoorI
namespace Go.Proofs.YtlfpaipbdlhefaaDoor
open Go.RowKit

def one : Int := 4607182418800017408
theorem one_in : inI one := by unfold inI one; omega
theorem one_right : rightB one = true := by decide
theorem one_text : (⟨#[120, 51, 102, 102, 48, 48, 48, 48, 48, 48, 48, 48, 48, 48, 48, 48, 48]⟩ : ByteArray) = ⟨(textW (wd one)).toArray⟩ := by decide +kernel
theorem one_show : showT one = [120, 51, 102, 102, 48, 48, 48, 48, 48, 48, 48, 48, 48, 48, 48, 48, 48] := by decide +kernel
theorem one_wd : wd one = 4607182418800017408 := by decide +kernel
theorem one_order : (FloatKind.f64.format.order 4607182418800017408 4607182418800017408 == some Ordering.eq) = true := by decide +kernel
theorem sign_order : ordI (-9223372036854775808) 0 = -1 := by decide +kernel

def zb : Array Value := #[.int .u8 128, .int .u8 0, .int .u8 0, .int .u8 0, .int .u8 0, .int .u8 0, .int .u8 0, .int .u8 0]

def zbAt (i : Nat) : Int := if i = 0 then 128 else 0
theorem zb_at : ∀ i : Nat, i < 8 → zb[i]? = some (.int .u8 (zbAt i)) := by
  intro i hi
  rcases (show i = 0 ∨ i = 1 ∨ i = 2 ∨ i = 3 ∨ i = 4 ∨ i = 5 ∨ i = 6 ∨ i = 7 by omega) with rfl | rfl | rfl | rfl | rfl | rfl | rfl | rfl <;> rfl

set_option maxHeartbeats 1000000 in
set_option maxRecDepth 100000 in
theorem alive_any (w : World) (hc : w.cell? ⟨6, 15, none⟩ = some (.int .u8 4)) :
    Calls Tryd.prog 9 #[] w fun e w' => e = .returned (.bool true) ∧ Below w.heap.size w w' := by
  have h6 := cell_lt hc
  have HRead : Hid (Calls Tryd.prog 21 #[.string ⟨#[120, 51, 102, 102, 48, 48, 48, 48, 48, 48, 48, 48, 48, 48, 48, 48, 48]⟩] w fun e w' => e = .returned (.tuple #[.int .i64 4607182418800017408, .bool true]) ∧ Below w.heap.size w w') := by
    rw [one_text]; exact read_text one_in one_right w hc
  have HShow : Hid (∀ W, Below w.heap.size w W → Calls Tryd.prog 17 #[.int .i64 4607182418800017408] W fun e w' => e = .returned (.string ⟨#[120, 51, 102, 102, 48, 48, 48, 48, 48, 48, 48, 48, 48, 48, 48, 48, 48]⟩) ∧ Below w.heap.size w w') := fun W hW => by
    have := show_any one_in W (by rw [hW.cell h6]; exact hc)
    rw [one_show] at this
    exact this.mono fun e w' ⟨he, hb⟩ => ⟨he, hW.trans (hb.mono hW.size)⟩
  have HBytes : Hid (∀ W, Below w.heap.size w W → Calls Tryd.prog 15 #[.int .i64 0] W fun e w' => e = .returned (.slice (some ⟨W.heap.size, 0, none⟩) 8 8) ∧ Blk w' W.heap.size 5 zb ∧ Below w.heap.size w w') := fun W hW => by
    have := bytes_yes (n := 0) (by unfold inI; omega) (by decide) W
    exact this.mono fun e w' ⟨he, hB, hb⟩ => ⟨he, hB, hW.trans (hb.mono hW.size)⟩
  have HSame : Hid (∀ W b, Blk W b 5 zb → Below w.heap.size w W → Calls Tryd.prog 14 #[.slice (some ⟨b, 0, none⟩) 8 8, .slice (some ⟨W.heap.size, 0, none⟩) 8 8] (W.alloc (.cells #[.int .u8 128, .int .u8 0, .int .u8 0, .int .u8 0, .int .u8 0, .int .u8 0, .int .u8 0, .int .u8 0] 5)) fun e w' => e = .returned (.bool true) ∧ Below w.heap.size w w') := fun W b hB hW => by
    have hB1 : Blk (W.alloc (.cells zb 5)) b 5 zb := hB.keep ((Below.refl W.heap.size W).alloc (Nat.le_refl _) _) hB.lt
    have hB2 := Blk.new W 5 zb
    refine (same_rows 8 (by omega) zbAt b W.heap.size 8 8 (W.alloc (.cells zb 5)) (fun i hi => by rw [hB1.cell, zb_at i hi]) (fun i hi => by rw [hB2.cell, zb_at i hi])).mono ?_
    rintro e w' ⟨rfl, m, rfl⟩
    exact ⟨rfl, below_drewN (hW.alloc hW.size _) m⟩
  have HOf : Hid (∀ W, Calls Tryd.prog 24 #[.float .f64 4607182418800017408] W fun e w' => e = .returned (.int .i64 4607182418800017408) ∧ W = w') := fun W => by
    have := of_wd one_in W
    rw [one_wd] at this
    exact this
  have HTo : Hid (∀ W, Calls Tryd.prog 23 #[.int .i64 4607182418800017408] W fun e w' => e = .returned (.float .f64 4607182418800017408) ∧ W = w') := fun W => by
    have := to_any one W
    rw [one_wd] at this
    exact this
  have HOrd : Hid (∀ W, Calls Tryd.prog 12 #[.int .i64 (-9223372036854775808), .int .i64 0] W fun e w' => e = .returned (.int .i64 (-1)) ∧ W = w') := fun W => by
    have := order_any (a := -9223372036854775808) (b := 0) (by unfold inI; omega) (by unfold inI; omega) W
    rw [sign_order] at this
    exact this
  have i1 : inI 9221120237041090560 := by unfold inI; omega
  have i2 : inI (-1) := by unfold inI; omega
  have r1 : rightB 9221120237041090560 = true := by decide
  have r2 : rightB (-1) = false := by decide
  have hOrder := one_order
  go_enter Tryd.func9, Tryd.ntmps9
  go_wp2_with (first | (go_at_call 21; refine HRead.out.mono ?_; rintro e w' ⟨rfl, hb⟩) | (go_at_call 17; refine (HShow.out _ (by assumption)).mono ?_; rintro e w' ⟨rfl, hb⟩) | (go_at_call 24; refine (HOf.out _).mono ?_; rintro e w' ⟨rfl, rfl⟩) | (go_at_call 23; refine (HTo.out _).mono ?_; rintro e w' ⟨rfl, rfl⟩) | (go_at_call 12; refine (HOrd.out _).mono ?_; rintro e w' ⟨rfl, rfl⟩) | (go_at_call 15; refine (HBytes.out _ (by assumption)).mono ?_; rintro e w' ⟨rfl, hB, hb⟩) | (go_at_call 14; refine (HSame.out _ _ (by assumption) (by assumption)).mono ?_; rintro e w' ⟨rfl, hb⟩) | (go_at_call 10; refine (right_any (by assumption) _).mono ?_; rintro e w' ⟨rfl, rfl⟩))
  go_ret
  exact ⟨rfl, by assumption⟩

end Go.Proofs.YtlfpaipbdlhefaaDoor
