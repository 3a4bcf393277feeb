/- val.takeInt and val.decode for every row of at most a thousand bytes. Conditions: the slice holds those bytes. -/
import Derived.Test.YtfcnobcpnhfgmaaDoorVF
import Derived.Test.YtfcnobcpnhfgmaaDoorFQ
namespace Go.Proofs.YtfcnobcpnhfgmaaDoor
open Go.RowKit

theorem xor_down {r : Int} (h0 : 0 ≤ r) (h : r < 18446744073709551616) : wrap64 (bits .xor .u64 r 9223372036854775808) = r - 9223372036854775808 := by
  rw [u64_xor _ _ (by omega) (by omega) (by omega) (by omega), show (9223372036854775808 : Int).toNat = 2 ^ 63 from rfl]
  by_cases hr : r < 9223372036854775808
  · rw [xor_top _ (by omega)]
    unfold wrap64
    omega
  · obtain ⟨m, hm⟩ : ∃ m : Nat, r - 9223372036854775808 = m := ⟨(r - 9223372036854775808).toNat, by omega⟩
    have e : r.toNat = m ^^^ 2 ^ 63 := by rw [xor_top m (by omega)]; omega
    rw [e, Nat.xor_assoc, Nat.xor_self, Nat.xor_zero]
    unfold wrap64
    omega

set_option maxHeartbeats 1000000 in
theorem takeInt_no {a : Option Addr} (n c : Nat) (hn : n ≠ 8) (w : World) :
    Calls Tryd.prog 158 #[.slice a n c] w fun e w' => e = .returned (.tuple #[.int .i64 0, .bool false]) ∧ w = w' := by
  have h8 : ((n : Int) != 8) = true := by simp only [bne_iff_ne, ne_eq]; omega
  go_enter Tryd.func158, Tryd.ntmps158
  go_wp2
  go_ret2
  exact ⟨rfl, rfl⟩

set_option maxHeartbeats 1000000 in
set_option maxRecDepth 100000 in
theorem takeInt_yes (l : List UInt8) (hl : l.length = 8) (b off c : Nat) (w : World) (hh : Holds w b off l) :
    Calls Tryd.prog 158 #[.slice (some ⟨b, off, none⟩) 8 c] w fun e w' => e = .returned (.tuple #[.int .i64 ((foldB l : Int) - 9223372036854775808), .bool true]) ∧ w = w' := by
  have HL := hid hl
  have HC : Hid (∀ i, i < 8 → w.cell? ⟨b, off + i, none⟩ = some (.int .u8 ((l.getD i 0).toNat : Int))) := fun i hi => hh i (by omega)
  clear hl hh
  go_enter Tryd.func158, Tryd.ntmps158
  go_wp2
  go_loop [4, 12] (fun vr vi => ∃ (k : Nat) (r : Int), k ≤ 8 ∧ vr = .int .u64 r ∧ vi = .int .i64 k ∧ 0 ≤ r ∧ r = foldB (l.take k)) (fun _ vi => 8 - (intOf vi).toNat)
  case atStart => exact ⟨0, 0, by omega, rfl, rfl, by omega, rfl⟩
  case round =>
    obtain ⟨k, r, hk, rfl, rfl, hr0, hr⟩ := hrel
    by_cases hlt : k < 8
    · have hb : r < 72057594037927936 := by
        have h1 := foldB_lt (l.take k)
        have h2 : (l.take k).length ≤ 7 := by rw [List.length_take]; omega
        have h3 : 256 ^ (l.take k).length ≤ 256 ^ 7 := Nat.pow_le_pow_right (by omega) h2
        rw [hr]
        omega
      have hcell := HC.out k hlt
      have hx := (l.getD k 0).toNat_lt
      obtain ⟨x, hxe⟩ : ∃ x, (l.getD k 0).toNat = x := ⟨_, rfl⟩
      rw [hxe] at hcell hx
      have hor := or_byte hr0 hb x (by omega)
      have HN : Hid (r * 256 + x = ((foldB (l.take (k + 1)) : Nat) : Int)) := hid (by rw [foldB_take l k (by rw [HL.out]; exact hlt), hxe, hr]; omega)
      have hx2 : x ≤ 255 := by omega
      clear hr hxe hx
      go_wp2
      go_round
      case rel => exact ⟨k + 1, r * 256 + x, by omega, rfl, by go_num, by omega, HN.out⟩
      case measure => simp [intOf]; omega
    · obtain rfl : k = 8 := by omega
      have hr8 : r = foldB l := by rw [hr, List.take_of_length_le (by rw [HL.out]; omega)]
      have hb : r < 18446744073709551616 := by
        have h1 := foldB_lt l
        rw [HL.out] at h1
        rw [hr8]
        have : (256 : Nat) ^ 8 = 18446744073709551616 := by decide
        omega
      have HX := hid (xor_down hr0 hb)
      have HR8 := hid hr8
      clear hr hr8 hb hr0
      obtain ⟨X, hX⟩ : ∃ X, bits .xor .u64 r 9223372036854775808 = X := ⟨_, rfl⟩
      rw [hX] at HX
      go_wp2
      go_ret2
      refine ⟨?_, rfl⟩
      have e : wrap64 X = (foldB l : Int) - 9223372036854775808 := by rw [HX.out, HR8.out]
      rw [← e]
      rfl

/-- The value behind a kind, by its bytes. -/
def decV (k : Int) (l : List UInt8) : Option (Int × List UInt8) :=
  if k = 1 then (if l.length = 8 then some ((foldB l : Int) - 9223372036854775808, []) else none)
  else if k = 5 then (if l.length = 8 then (if rightB (unrankI (foldB l)) = true then some (unrankI (foldB l), []) else none) else none)
  else if k = 4 then (if l.length = 1 then some (((l.getD 0 0).toNat : Int), []) else none)
  else if k = 2 ∨ k = 3 then (unText l).map fun s => (0, s)
  else none
def decEnd (k : Int) : Option (Int × List UInt8) → Ending
  | some (n, s) => .returned (.tuple #[.agg #[.int .i64 k, .int .i64 n, .string ⟨s.toArray⟩], .bool true])
  | none => .returned (.tuple #[.agg #[.int .i64 k, .int .i64 0, .string ⟨#[]⟩], .bool false])


theorem below2 (w : World) (o1 o2 : Obj) : Below w.heap.size w ((w.alloc o1).alloc o2) := (below_new w o1).alloc (by simp) o2

theorem cell_set_same {w : World} {a : Addr} {u : Value} (h : (w.cell? a).isSome = true) : (w.setCell a u).cell? a = some u := by
  obtain ⟨v, hv⟩ := Option.isSome_iff_exists.1 h
  exact World.cell?_setCell_same w a u hv
theorem addr_ne {g h i j : Nat} (hn : g ≠ h ∨ i ≠ j) : (⟨g, i, none⟩ : Addr) ≠ ⟨h, j, none⟩ := by
  intro e
  injection e with e1 e2
  omega
/-- Three cells of one block written, one behind the other. -/
theorem cell_set3 {w1 : World} {h : Nat} {a b c a0 b0 c0 : Value} (h0 : w1.cell? ⟨h, 0, none⟩ = some a0) (h1 : w1.cell? ⟨h, 1, none⟩ = some b0) (h2 : w1.cell? ⟨h, 2, none⟩ = some c0) :
    (((w1.setCell ⟨h, 0, none⟩ a).setCell ⟨h, 1, none⟩ b).setCell ⟨h, 2, none⟩ c).cell? ⟨h, 0, none⟩ = some a ∧ (((w1.setCell ⟨h, 0, none⟩ a).setCell ⟨h, 1, none⟩ b).setCell ⟨h, 2, none⟩ c).cell? ⟨h, 1, none⟩ = some b ∧
    (((w1.setCell ⟨h, 0, none⟩ a).setCell ⟨h, 1, none⟩ b).setCell ⟨h, 2, none⟩ c).cell? ⟨h, 2, none⟩ = some c ∧ ∀ g j, g ≠ h → (((w1.setCell ⟨h, 0, none⟩ a).setCell ⟨h, 1, none⟩ b).setCell ⟨h, 2, none⟩ c).cell? ⟨g, j, none⟩ = w1.cell? ⟨g, j, none⟩ := by
  refine ⟨?_, ?_, ?_, fun g j hg => ?_⟩
  · rw [World.cell?_setCell_other _ _ _ _ (addr_ne (Or.inr (by omega))), World.cell?_setCell_other _ _ _ _ (addr_ne (Or.inr (by omega)))]
    exact World.cell?_setCell_same _ _ _ h0
  · rw [World.cell?_setCell_other _ _ _ _ (addr_ne (Or.inr (by omega)))]
    exact World.cell?_setCell_same _ _ _ ((World.cell?_setCell_other _ _ _ _ (addr_ne (Or.inr (by omega)))).trans h1)
  · exact World.cell?_setCell_same _ _ _ ((World.cell?_setCell_other _ _ _ _ (addr_ne (Or.inr (by omega)))).trans ((World.cell?_setCell_other _ _ _ _ (addr_ne (Or.inr (by omega)))).trans h2))
  · rw [World.cell?_setCell_other _ _ _ _ (addr_ne (by omega)), World.cell?_setCell_other _ _ _ _ (addr_ne (by omega)), World.cell?_setCell_other _ _ _ _ (addr_ne (by omega))]
theorem below_get {w w1 : World} (h : Below w.heap.size w w1) : w.heap.size ≤ w1.heap.size := h.size

set_option maxHeartbeats 1000000 in
/-- The kinds of one number: whatever takeInt answers. -/
theorem decode_1 (A : Option Addr) (n c : Nat) (N : Int) (ok : Bool) (w : World) (HT : Hid (∀ W, Below w.heap.size w W → Calls Tryd.prog 158 #[.slice A n c] W fun e w' => e = .returned (.tuple #[.int .i64 N, .bool ok]) ∧ W = w')) :
    Calls Tryd.prog 142 #[.int .i64 1, .slice A n c] w fun e w' => e = .returned (.tuple #[.agg #[.int .i64 1, .int .i64 N, .string ⟨#[]⟩], .bool ok]) ∧ Below w.heap.size w w' := by
  have HB := hid (below2 w)
  go_enter Tryd.func142, Tryd.ntmps142
  go_wp2_with (go_at_call 158; refine (HT.out _ (HB.out _ _)).mono ?_; rintro e w' ⟨rfl, rfl⟩)
  exact bodyPost_ret (v := .tuple #[.agg #[.int .i64 1, .int .i64 N, .string ⟨#[]⟩], .bool ok]) (by simp [results, Tryd.results142, go_sem]) rfl ⟨rfl, HB.out _ _⟩

set_option maxHeartbeats 1000000 in
theorem decode_5 (A : Option Addr) (n c : Nat) (N : Int) (ok : Bool) (w : World) (HT : Hid (∀ W, Below w.heap.size w W → Calls Tryd.prog 159 #[.slice A n c] W fun e w' => e = .returned (.tuple #[.int .i64 N, .bool ok]) ∧ W = w')) :
    Calls Tryd.prog 142 #[.int .i64 5, .slice A n c] w fun e w' => e = .returned (.tuple #[.agg #[.int .i64 5, .int .i64 N, .string ⟨#[]⟩], .bool ok]) ∧ Below w.heap.size w w' := by
  have HB := hid (below2 w)
  go_enter Tryd.func142, Tryd.ntmps142
  go_wp2_with (go_at_call 159; refine (HT.out _ (HB.out _ _)).mono ?_; rintro e w' ⟨rfl, rfl⟩)
  exact bodyPost_ret (v := .tuple #[.agg #[.int .i64 5, .int .i64 N, .string ⟨#[]⟩], .bool ok]) (by simp [results, Tryd.results142, go_sem]) rfl ⟨rfl, HB.out _ _⟩

set_option maxHeartbeats 1000000 in
theorem decode_4_no (A : Option Addr) (n c : Nat) (hn : n ≠ 1) (w : World) :
    Calls Tryd.prog 142 #[.int .i64 4, .slice A n c] w fun e w' => e = .returned (.tuple #[.agg #[.int .i64 4, .int .i64 0, .string ⟨#[]⟩], .bool false]) ∧ Below w.heap.size w w' := by
  have HB := hid (below2 w)
  have h1 : ((n : Int) == 1) = false := by simp only [beq_eq_false_iff_ne, ne_eq]; omega
  go_enter Tryd.func142, Tryd.ntmps142
  go_wp2
  exact bodyPost_ret (v := .tuple #[.agg #[.int .i64 4, .int .i64 0, .string ⟨#[]⟩], .bool false]) (by simp [results, Tryd.results142, go_sem]) rfl ⟨rfl, HB.out _ _⟩

set_option maxHeartbeats 1000000 in
theorem decode_4_yes (b off c x : Nat) (hx : x < 256) (w : World) (hc : w.cell? ⟨b, off, none⟩ = some (.int .u8 (x : Int))) :
    Calls Tryd.prog 142 #[.int .i64 4, .slice (some ⟨b, off, none⟩) 1 c] w fun e w' => e = .returned (.tuple #[.agg #[.int .i64 4, .int .i64 (x : Int), .string ⟨#[]⟩], .bool true]) ∧ Below w.heap.size w w' := by
  have HB := hid (below2 w)
  have hlt := cell_lt hc
  have hc2 : ∀ o1 o2, ((w.alloc o1).alloc o2).cell? ⟨b, off, none⟩ = some (.int .u8 (x : Int)) := fun o1 o2 => by
    rw [(below2 w o1 o2).cell (p := ⟨b, off, none⟩) hlt]; exact hc
  clear hc
  go_enter Tryd.func142, Tryd.ntmps142
  go_wp2
  exact bodyPost_ret (v := .tuple #[.agg #[.int .i64 4, .int .i64 (x : Int), .string ⟨#[]⟩], .bool true]) (by simp [results, Tryd.results142, go_sem]) rfl ⟨rfl, HB.out _ _⟩

set_option maxHeartbeats 1000000 in
theorem decode_0 (k : Int) (A : Option Addr) (n c : Nat) (h1 : (k == 1) = false) (h2 : (k == 2) = false) (h3 : (k == 3) = false) (h4 : (k == 4) = false) (h5 : (k == 5) = false) (w : World) :
    Calls Tryd.prog 142 #[.int .i64 k, .slice A n c] w fun e w' => e = .returned (.tuple #[.agg #[.int .i64 k, .int .i64 0, .string ⟨#[]⟩], .bool false]) ∧ Below w.heap.size w w' := by
  have HB := hid (below2 w)
  go_enter Tryd.func142, Tryd.ntmps142
  go_wp2
  exact bodyPost_ret (v := .tuple #[.agg #[.int .i64 k, .int .i64 0, .string ⟨#[]⟩], .bool false]) (by simp [results, Tryd.results142, go_sem]) rfl ⟨rfl, HB.out _ _⟩

set_option maxHeartbeats 1000000 in
theorem decode_2 (A : Option Addr) (n c : Nat) (S : ByteArray) (ok : Bool) (w : World) (HT : Hid (∀ W, Below w.heap.size w W → Calls Tryd.prog 160 #[.slice A n c] W fun e w' => e = .returned (.tuple #[.string S, .bool ok]) ∧ Below W.heap.size W w')) :
    Calls Tryd.prog 142 #[.int .i64 2, .slice A n c] w fun e w' => e = .returned (.tuple #[.agg #[.int .i64 2, .int .i64 0, .string S], .bool ok]) ∧ Below w.heap.size w w' := by
  have HB := hid (below2 w)
  go_enter Tryd.func142, Tryd.ntmps142
  go_wp2_with (go_at_call 160; refine (HT.out _ (HB.out _ _)).mono ?_; rintro e w1 ⟨rfl, hb1⟩; obtain ⟨hc, hf⟩ := bcell hb1; have hz : w.heap.size + 1 < w1.heap.size := (by have := hb1.size; simp at this; omega); have g0 := hc w.heap.size 0 (by simp; omega); have g1 := hc w.heap.size 1 (by simp; omega); have g2 := hc w.heap.size 2 (by simp; omega))
  simp at g0 g1 g2
  refine bodyPost_ret (v := .tuple #[.agg #[.int .i64 2, .int .i64 0, .string S], .bool ok]) (by simp [results, Tryd.results142, go_sem, cell_set_same, g0, g1, g2]) rfl ⟨rfl, ?_⟩
  exact ((((((HB.out _ _).trans (hb1.mono (by simp; omega))).setCell (by simp) _).setCell (by simp) _).setCell (by simp) _).setCell (by simp) _)

set_option maxHeartbeats 1000000 in
theorem decode_3 (A : Option Addr) (n c : Nat) (S : ByteArray) (ok : Bool) (w : World) (HT : Hid (∀ W, Below w.heap.size w W → Calls Tryd.prog 160 #[.slice A n c] W fun e w' => e = .returned (.tuple #[.string S, .bool ok]) ∧ Below W.heap.size W w')) :
    Calls Tryd.prog 142 #[.int .i64 3, .slice A n c] w fun e w' => e = .returned (.tuple #[.agg #[.int .i64 3, .int .i64 0, .string S], .bool ok]) ∧ Below w.heap.size w w' := by
  have HB := hid (below2 w)
  go_enter Tryd.func142, Tryd.ntmps142
  go_wp2_with (go_at_call 160; refine (HT.out _ (HB.out _ _)).mono ?_; rintro e w1 ⟨rfl, hb1⟩; obtain ⟨hc, hf⟩ := bcell hb1; have hz : w.heap.size + 1 < w1.heap.size := (by have := hb1.size; simp at this; omega); have g0 := hc w.heap.size 0 (by simp; omega); have g1 := hc w.heap.size 1 (by simp; omega); have g2 := hc w.heap.size 2 (by simp; omega))
  simp at g0 g1 g2
  refine bodyPost_ret (v := .tuple #[.agg #[.int .i64 3, .int .i64 0, .string S], .bool ok]) (by simp [results, Tryd.results142, go_sem, cell_set_same, g0, g1, g2]) rfl ⟨rfl, ?_⟩
  exact ((((((HB.out _ _).trans (hb1.mono (by simp; omega))).setCell (by simp) _).setCell (by simp) _).setCell (by simp) _).setCell (by simp) _)

end Go.Proofs.YtfcnobcpnhfgmaaDoor
