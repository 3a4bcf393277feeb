/- strconv.FormatUint to the base 16, for every uint64: its digits. Conditions: the table of math/bits reads as it is laid. -/
import Derived.Test.YtgahljgmgdjjdaaGreatDoorFB
import Derived.Test.YtgahljgmgdjjdaaGreatDoorFH
import Derived.Deep.Light
namespace Go.Proofs.YtgahljgmgdjjdaaGreatDoor
open Go.RowKit

set_option maxHeartbeats 400000 in
theorem tz16 (w : World) (hc : w.cell? ⟨8, 15, none⟩ = some (.int .u8 4)) :
    Calls Tryz.prog 114 #[.int .u64 16] w fun e w' => e = .returned (.int .i64 4) ∧ w = w' := by
  have g1 : IntKind.u64.wrap (-16) = 18446744073709551600 := by rfl
  have g2 : bits .and .u64 16 18446744073709551600 = 16 := by rfl
  go_enter Tryz.func114, Tryz.ntmps114
  go_wp2
  go_ret
  exact ⟨rfl, rfl⟩

set_option maxHeartbeats 400000 in
theorem pow16 (w : World) : Calls Tryz.prog 113 #[.int .i64 16] w fun e w' => e = .returned (.bool true) ∧ w = w' := by
  have g2 : bits .and .i64 16 15 = 0 := by rfl
  go_enter Tryz.func113, Tryz.ntmps113
  go_wp2
  go_ret
  exact ⟨rfl, rfl⟩

/-- Block b holds these cells, and may be written. -/
def Blk (w : World) (b : Nat) (T : TypeId) (xs : Array Value) : Prop := w.heap[b]? = some (.cells xs T (0, 0))
theorem Blk.lt {w : World} {b : Nat} {T : TypeId} {xs : Array Value} (h : Blk w b T xs) : b < w.heap.size := by
  rcases Nat.lt_or_ge b w.heap.size with h' | h'
  · exact h'
  · unfold Blk at h; simp [Array.getElem?_eq_none h'] at h
theorem Blk.cell {w : World} {b : Nat} {T : TypeId} {xs : Array Value} (h : Blk w b T xs) (i : Nat) : w.cell? ⟨b, i, none⟩ = xs[i]? := by unfold Blk at h; simp [World.cell?, h]
theorem Blk.free {w : World} {b : Nat} {T : TypeId} {xs : Array Value} (h : Blk w b T xs) (i : Nat) : w.frozen? ⟨b, i, none⟩ = false := by unfold Blk at h; simp [World.frozen?, h]
theorem Blk.set {w : World} {b : Nat} {T : TypeId} {xs : Array Value} (h : Blk w b T xs) (i : Nat) (u : Value) : Blk (w.setCell ⟨b, i, none⟩ u) b T (xs.setIfInBounds i u) := by
  have hlt := h.lt
  unfold Blk at *
  have h' : w.heap[b] = .cells xs T (0, 0) := by simpa [Array.getElem?_eq_getElem hlt] using h
  show (w.heap.modify b _)[b]? = _
  rw [Array.getElem?_eq_getElem (by simpa using hlt), Array.getElem_modify_self, h']
  rfl
theorem Blk.new (w : World) (T : TypeId) (xs : Array Value) : Blk (w.alloc (.cells xs T)) w.heap.size T xs := by unfold Blk; exact heap_alloc_new w _
theorem Blk.keep {w w' : World} {b B : Nat} {T : TypeId} {xs : Array Value} (h : Blk w b T xs) (hb : Below B w w') (hB : b < B) : Blk w' b T xs := by unfold Blk at *; rw [hb.block b hB]; exact h

theorem cell_lt {w : World} {b i : Nat} {v : Value} (h : w.cell? ⟨b, i, none⟩ = some v) : b < w.heap.size := by
  rcases Nat.lt_or_ge b w.heap.size with h' | h'
  · exact h'
  · simp [World.cell?, Array.getElem?_eq_none h'] at h

/-- The cells of a byte text. -/
def bc (l : List UInt8) : List Value := l.map fun c => Value.int .u8 (c.toNat : Int)

/-- What the loop knows: j digits have been taken and lie at the row's end. -/
def FInv (u0 b : Nat) (w0 : World) (vu vi : Value) (wr : World) : Prop :=
  ∃ (j k x : Nat) (xs : Array Value), j + k = 64 ∧ j ≤ 15 ∧ x = u0 / 16 ^ j ∧ vu = .int .u64 (x : Nat) ∧ vi = .int .i64 (k + 1 : Nat) ∧ (j = 0 ∨ 16 ≤ u0 / 16 ^ (j - 1)) ∧
    Blk wr b 123 xs ∧ xs.size = 65 ∧ xs.toList.drop (k + 1) = bc (fixW j u0) ∧ Below b w0 wr

theorem and15 (x : Nat) (h : x < 18446744073709551616) : bits .and .u64 (x : Int) 15 = ((x % 16 : Nat) : Int) := by
  rw [u64_and _ _ (by omega) (by omega) (by omega) (by omega), Int.toNat_natCast, show (15 : Int).toNat = 15 from rfl, nat_mask4]

theorem dg_at (d : Nat) (h : d < 16) : (Value.int .u8 (((⟨#[48, 49, 50, 51, 52, 53, 54, 55, 56, 57, 97, 98, 99, 100, 101, 102, 103, 104, 105, 106, 107, 108, 109, 110, 111, 112, 113, 114, 115, 116, 117, 118, 119, 120, 121, 122]⟩ : ByteArray)[d]'(show d < 36 by omega)).toNat : Int)) = Value.int .u8 ((dg d).toNat : Int) := by
  have h1 := digitsText_dg d h
  have h2 : digitsText.data[d]? = some (digitsText.data[d]'(show d < 36 by omega)) := Array.getElem?_eq_getElem _
  rw [h2] at h1
  have h3 : digitsText.data[d]'(show d < 36 by omega) = dg d := Option.some.inj h1
  rw [← h3]
  rfl

theorem drop_set {xs : Array Value} {k j u : Nat} {c : UInt8} (hs : xs.size = 65) (hk : k ≤ 64) (hd : xs.toList.drop (k + 1) = bc (fixW j u)) (hf : fixW (j + 1) u = c :: fixW j u) :
    (xs.setIfInBounds k (Value.int .u8 (c.toNat : Int))).toList.drop k = bc (fixW (j + 1) u) := by
  rw [hf]
  unfold bc at *
  rw [List.map_cons, ← hd, Array.toList_setIfInBounds, List.drop_set, if_neg (by omega), Nat.sub_self]
  rw [List.drop_eq_getElem_cons (by simp; omega)]
  rfl

theorem add_zero_off (b o n : Nat) : (⟨b, o, none⟩ : Addr).add n = ⟨b, o + n, none⟩ := by
  unfold Addr.add
  split
  · subst_vars; rfl
  · rfl

theorem slice65 (W : World) (b : Nat) {k j : Nat} (h : j + k = 64) : (Instr.sliceAt 123 (.pointer (some ⟨b, 0, none⟩)) (some (.int .i64 (k : Int))) none none).run Tryz.prog W = .ok (.slice (some ⟨b, k, none⟩) (j + 1) (j + 1)) W := by
  have h1 : Tryz.prog.arrayLen 123 = 65 := by kernel_rfl
  have h2 : Tryz.prog.elem 123 = 5 := by kernel_rfl
  rw [run_sliceAt_array_l W 123 ⟨b, 0, none⟩ (by rw [h1, h2]; kernel_rfl) .i64 (k : Int) (by omega) (by rw [h1]; omega), h1, h2]
  have h3 : (sizeOf 5).run Tryz.prog W = .ok 1 W := by kernel_rfl
  rw [h3]
  simp only [Result.andThen, slicedAt, Int.toNat_natCast]
  rw [if_neg (by omega), show 65 - k = j + 1 by omega]
  rw [add_zero_off, Nat.mul_one, Nat.zero_add]

theorem cells_of_drop {W : World} {b k T : Nat} {xs : Array Value} {l : List UInt8} (hB : Blk W b T xs) (hd : xs.toList.drop k = bc l) :
    ∀ i (hi : i < l.length), W.cell? ((⟨b, k, none⟩ : Addr).add i) = some (.int .u8 (l[i].toNat : Int)) := by
  intro i hi
  have h1 : (xs.toList.drop k)[i]? = (bc l)[i]? := by rw [hd]
  rw [List.getElem?_drop, bc, List.getElem?_map, List.getElem?_eq_getElem hi, Array.getElem?_toList] at h1
  have h2 := hB.cell (k + i)
  rw [h1] at h2
  rw [add_zero_off]
  exact h2

set_option maxHeartbeats 1000000 in
set_option maxRecDepth 100000 in
theorem formatBits (u : Nat) (hu : u < 18446744073709551616) (w : World) (hc : w.cell? ⟨8, 15, none⟩ = some (.int .u8 4)) :
    Calls Tryz.prog 96 #[.slice none 0 0, .int .u64 u, .int .i64 16, .bool false, .bool false] w fun e w' => e = .returned (.tuple #[.slice none 0 0, .string ⟨(hexText u).toArray⟩]) ∧ Below w.heap.size w w' := by
  have h6 := cell_lt hc
  have hc1 : ∀ o, (w.alloc o).cell? ⟨8, 15, none⟩ = some (.int .u8 4) := fun o => by rw [← hc]; exact ((Below.refl w.heap.size w).alloc (Nat.le_refl _) o).cell h6
  have HU := hid hu
  clear hu
  go_enter Tryz.func96, Tryz.ntmps96
  go_wp2_with (first | (go_at_call 114; refine (tz16 _ (hc1 _)).mono ?_; rintro e w' ⟨rfl, rfl⟩) | (go_at_call 113; refine (pow16 _).mono ?_; rintro e w' ⟨rfl, rfl⟩))
  go_loopw [1, 13] (fun vu vi wr => FInv u w.heap.size w vu vi wr) (fun _ vi _ => (intOf vi).toNat)
  case atStart =>
    exact ⟨0, 64, u, Tryz.zeroCells123, by omega, by omega, by simp, rfl, rfl, Or.inl rfl, Blk.new _ _ _, rfl, rfl, (Below.refl _ _).alloc (Nat.le_refl _) _⟩
  case round =>
    obtain ⟨j, k, x, xs, hjk, hj, hx, rfl, rfl, hd, hB, hs, hdrop, hbel⟩ := hrel
    clear hc1 hc h6
    have hxl : x < 18446744073709551616 := by rw [hx]; exact Nat.lt_of_le_of_lt (Nat.div_le_self _ _) HU.out
    have hand := and15 x hxl
    have HX := hid hx
    have HB := hid hB
    have HS := hid hs
    have HD := hid hdrop
    have HJK := hid hjk
    have hk1 : k ≤ 64 := by omega
    have hk2 : 49 ≤ k := by omega
    obtain ⟨v0, hcell⟩ : ∃ v, wr.cell? ⟨w.heap.size, k, none⟩ = some v := ⟨xs[k]'(by omega), by rw [hB.cell, Array.getElem?_eq_getElem]⟩
    have hfree := hB.free k
    clear hx hB hs hdrop hjk
    by_cases h16 : 16 ≤ x
    · go_wp2
      go_roundw
      case rel =>
        refine ⟨j + 1, k - 1, x / 16, xs.setIfInBounds k (Value.int .u8 ((dg (x % 16)).toNat : Int)), by have := HJK.out; omega, ?_, ?_, ?_, ?_, ?_, ?_, ?_, ?_, hbel.setCell (Nat.le_refl _) _⟩
        · go_light
          have h1 := HX.out
          have h2 := HU.out
          rcases Nat.lt_or_ge j 15 with h | h
          · omega
          · obtain rfl : j = 15 := by omega
            exfalso
            omega
        · rw [HX.out, Nat.div_div_eq_div_mul, Nat.pow_succ]
        · go_num
        · rw [show k - 1 + 1 = k by omega]
        · exact Or.inr (by rw [Nat.add_sub_cancel, ← HX.out]; exact h16)
        · have e := dg_at (x % 16) (by omega)
          rw [e]
          exact HB.out.set k _
        · rw [Array.size_setIfInBounds]; exact HS.out
        · rw [show k - 1 + 1 = k by omega]
          exact drop_set HS.out hk1 HD.out (by rw [fixW_cons, ← HX.out])
      case measure => simp [intOf]
    · have h15 : x < 16 := by omega
      have hdg := dg_at x h15
      have hL := hexLen_of 15 u j hj (by rw [← HX.out]; exact h15) hd
      have hT : hexText u = fixW (j + 1) u := by unfold hexText; rw [hL]
      have hB1 := HB.out.set k (Value.int .u8 ((dg x).toNat : Int))
      have hD1 := drop_set HS.out hk1 HD.out (c := dg x) (by rw [fixW_cons, ← HX.out, Nat.mod_eq_of_lt h15])
      rw [← hT] at hD1
      have hlen : (hexText u).length = j + 1 := by rw [hT, fixW_len]
      have hsl : ∀ W, (Instr.sliceAt 123 (.pointer (some ⟨w.heap.size, 0, none⟩)) (some (.int .i64 (k : Int))) none none).run Tryz.prog W = .ok (.slice (some ⟨w.heap.size, k, none⟩) (hexText u).length (j + 1)) W := fun W => by
        rw [hlen]; exact slice65 W _ (by have := HJK.out; omega)
      have hcv : (convert 26 9 (.slice (some ⟨w.heap.size, k, none⟩) (hexText u).length (j + 1))).run Tryz.prog (wr.setCell ⟨w.heap.size, k, none⟩ (.int .u8 ((dg x).toNat : Int))) = .ok (.string ⟨(hexText u).toArray⟩) (wr.setCell ⟨w.heap.size, k, none⟩ (.int .u8 ((dg x).toNat : Int))) :=
        run_convert_bytes_back _ 26 9 5 _ _ _ Tryz.underlying26 Tryz.underlying5 Tryz.underlying9 (cells_of_drop hB1 hD1)
      clear hL hT hD1 hlen hd hB1
      go_wp2
      go_ret2
      exact ⟨rfl, hbel.setCell (Nat.le_refl _) _⟩

set_option maxHeartbeats 400000 in
theorem formatUintIn (u : Nat) (hu : u < 18446744073709551616) (w : World) (hc : w.cell? ⟨8, 15, none⟩ = some (.int .u8 4)) :
    Calls Tryz.prog 77 #[.int .u64 u, .int .i64 16] w fun e w' => e = .returned (.string ⟨(hexText u).toArray⟩) ∧ Below w.heap.size w w' := by
  go_enter Tryz.func77, Tryz.ntmps77
  go_wp2_with (go_at_call 96; refine (formatBits u hu _ (by assumption)).mono ?_; rintro e w' ⟨rfl, hb⟩)
  go_ret
  exact ⟨rfl, hb⟩

set_option maxHeartbeats 400000 in
/-- strconv.FormatUint(u, 16): u's digits, no noughts ahead. -/
theorem formatUint (u : Nat) (hu : u < 18446744073709551616) (w : World) (hc : w.cell? ⟨8, 15, none⟩ = some (.int .u8 4)) :
    Calls Tryz.prog 62 #[.int .u64 u, .int .i64 16] w fun e w' => e = .returned (.string ⟨(hexText u).toArray⟩) ∧ Below w.heap.size w w' := by
  go_enter Tryz.func62, Tryz.ntmps62
  go_wp2_with (go_at_call 77; refine (formatUintIn u hu _ (by assumption)).mono ?_; rintro e w' ⟨rfl, hb⟩)
  go_ret
  exact ⟨rfl, hb⟩

end Go.Proofs.YtgahljgmgdjjdaaGreatDoor
