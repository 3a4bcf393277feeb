/- The writer of package codec: a number's bytes behind what a buffer holds; codec.Num at every number. Conditions: buffers of at most a million bytes. -/
import Derived.Test.YtfcnobcpnhfgmaaDoorSB
import Derived.Test.YtfcnobcpnhfgmaaDoorShelf
import Derived.WalkKit
import Derived.WalkSpells
import Derived.WalkLawsBesides
namespace Go.Proofs.YtfcnobcpnhfgmaaDoor
open Go.RowKit

/-- A writer in block b (one of the call's own) that holds the bytes l. -/
abbrev Wr (w : World) (B b : Nat) (l : List UInt8) : Prop := LibA.IsBuffer 120 (fun _ => none) 5 B b 0 (bc l) w

theorem wbyte (B b : Nat) (l : List UInt8) (hl : l.length ≤ 1000000) (c : UInt8) (x : Int) (hx : x = (c.toNat : Int)) (w : World) (h : Wr w B b l) (hB : B ≤ w.heap.size) :
    Calls Tryd.prog 131 #[.pointer (some ⟨b, 0, none⟩), .int .u8 x] w fun e w' => e = .returned .nilIface ∧ Wr w' B b (l ++ [c]) ∧ Below B w w' := by
  subst hx
  refine (Tryd.Buffer_WriteByte_at 120 (fun _ => none) B b 0 (bc l) (c.toNat : Int) w h hB (bc_one l) (by rw [bc_len]; omega)).mono ?_
  rintro e w' ⟨rfl, h1, h2, -⟩
  refine ⟨rfl, ?_, h2⟩
  unfold Wr
  rw [bc_app]
  exact h1

theorem or_more (m : Nat) : bits .or .u8 ((m : Int) % 256) 128 = (((UInt8.ofNat (128 + m % 128)).toNat : Nat) : Int) := by
  have e0 : ((m : Int) % 256) = ((m % 256 : Nat) : Int) := by omega
  rw [e0, show (128 : Int) = ((128 : Nat) : Int) from rfl, u8_or_nat _ _ (by omega) (by decide), UInt8.toNat_ofNat']
  have e1 : m % 256 ||| 128 = 128 + m % 128 := by
    have h2 : m % 256 = m % 256 / 128 * 128 + m % 128 := by omega
    have h3 : m % 256 / 128 = 0 ∨ m % 256 / 128 = 1 := by omega
    rcases h3 with h3 | h3
    · rw [h2, h3, Nat.zero_mul, Nat.zero_add, Nat.or_comm]
      exact nat_join7 128 (m % 128) (by decide) (by omega)
    · have e : 1 * 128 + m % 128 = 128 ||| m % 128 := by rw [nat_join7 128 (m % 128) (by decide) (by omega)]
      rw [h2, h3, e, Nat.or_comm, ← Nat.or_assoc, Nat.or_self]
  rw [e1]
  omega
theorem numW_len9 (n : Nat) (hn : n < 9223372036854775808) : (numW n).length ≤ 9 := numW_len 8 n hn

set_option maxHeartbeats 1000000 in
theorem wnumber_any (B b n : Nat) (hn : n < 9223372036854775808) (l : List UInt8) (hl : l.length ≤ 1000) (w : World) (h : Wr w B b l) (hB : B ≤ w.heap.size) :
    Calls Tryd.prog 90 #[.pointer (some ⟨b, 0, none⟩), .int .i64 n] w fun e w' => e = .returned (.tuple #[]) ∧ Wr w' B b (l ++ numW n) ∧ Below B w w' := by
  have hlen := hid (numW_len9 n hn)
  obtain ⟨y, hy⟩ : ∃ y : Int, (n : Int) = y := ⟨_, rfl⟩
  have HY := hid (And.intro hy.symm hn)
  rw [hy]
  have H0 : 0 ≤ y := by omega
  clear hy hn
  go_enter Tryd.func90, Tryd.ntmps90
  go_wp2
  go_loopw [1] (fun vn wr => ∃ (m : Nat) (x : Int) (pre : List UInt8), Hid (x = (m : Int) ∧ m < 9223372036854775808) ∧ 0 ≤ x ∧ vn = .int .i64 x ∧ numW n = pre ++ numW m ∧ Wr wr B b (l ++ pre) ∧ Below B w wr) (fun vn _ => (intOf vn).toNat)
  case atStart => exact ⟨n, y, [], HY, H0, rfl, rfl, by simpa using h, Below.refl _ _⟩
  case round =>
    obtain ⟨m, x, pre, HX, h0, rfl, hp, hW, hbel⟩ := hrel
    have HC : Hid (∀ (z : Int) (c : UInt8), z = (c.toNat : Int) → Calls Tryd.prog 131 #[.pointer (some ⟨b, 0, none⟩), .int .u8 z] wr fun e w' => e = .returned .nilIface ∧ Wr w' B b (l ++ pre ++ [c]) ∧ Below B wr w') := by
      intro z c hz
      have hpl : pre.length ≤ 9 := by have := congrArg List.length hp; have h9 := hlen.out; rw [List.length_append] at this; omega
      exact wbyte B b (l ++ pre) (by rw [List.length_append]; omega) c z hz wr hW (Nat.le_trans hB hbel.size)
    by_cases h128 : x < 128
    · have HE : Hid (x = ((UInt8.ofNat m).toNat : Int)) := by unfold Hid; have := HX.out; rw [UInt8.toNat_ofNat']; omega
      have HN : Hid (numW m = [UInt8.ofNat m]) := numW_small (by have := HX.out; omega)
      have HP := hid hp
      clear hW hlen hp
      go_wp2_with (go_at_call 131; refine (HC.out _ _ HE.out).mono ?_; rintro e w1 ⟨rfl, h1, h2⟩)
      go_end0
      refine ⟨rfl, ?_, hbel.trans h2⟩
      rw [HP.out, HN.out, ← List.append_assoc]
      exact h1
    · have HO : Hid (bits .or .u8 (x % 256) 128 = (((UInt8.ofNat (128 + m % 128)).toNat : Nat) : Int)) := by have := or_more m; rwa [← HX.out.1] at this
      have HN : Hid (numW m = UInt8.ofNat (128 + m % 128) :: numW (m / 128)) := numW_big (by have := HX.out; omega)
      have HP := hid hp
      clear hW hlen hp
      go_wp2_with (go_at_call 131; refine (HC.out _ _ HO.out).mono ?_; rintro e w1 ⟨rfl, h1, h2⟩)
      go_roundw
      case rel =>
        refine ⟨m / 128, x / 128, pre ++ [UInt8.ofNat (128 + m % 128)], ?_, ?_, rfl, ?_, ?_, hbel.trans h2⟩
        · unfold Hid; have := HX.out; omega
        · omega
        · rw [HP.out, HN.out, List.append_assoc]; rfl
        · rw [← List.append_assoc]; exact h1
      case measure => simp [intOf]; omega

set_option maxHeartbeats 1000000 in
theorem wnumber_neg (b : Nat) (n : Int) (hn : n < 0) (w : World) :
    Calls Tryd.prog 90 #[.pointer (some ⟨b, 0, none⟩), .int .i64 n] w fun e w' => e = .returned (.tuple #[]) ∧ w = w' := by
  go_enter Tryd.func90, Tryd.ntmps90
  go_wp2
  refine bodyPost_ret (results_none rfl _ _ _) rfl ?_
  exact ⟨rfl, rfl⟩

/-- What a writer holds, as a slice. -/
theorem wbytes_any (B b : Nat) (l : List UInt8) (w : World) (h : Wr w B b l) :
    Calls Tryd.prog 91 #[.pointer (some ⟨b, 0, none⟩)] w fun e w' => ∃ v, e = .returned v ∧ Row w' B v l ∧ Below w.heap.size w w' := by
  obtain ⟨hB, lr, hc⟩ := h.cases
  rcases hc with ⟨hnil, hbk⟩ | ⟨g, cap, cur, hbk, hBg, hg, hnc, hcm, hcs, htk, hgb⟩
  · have hl : l = [] := by
      unfold bc at hnil; exact List.map_eq_nil_iff.1 hnil
    subst hl
    have c0 : w.cell? ⟨b, 0, none⟩ = some (.slice none 0 0) := hbk.c0
    have c1 : w.cell? ⟨b, 1, none⟩ = some (.int .i64 0) := hbk.c1
    have f0 : w.frozen? ⟨b, 0, none⟩ = false := hbk.f 0
    have f1 : w.frozen? ⟨b, 1, none⟩ = false := hbk.f 1
    clear hbk
    go_enter Tryd.func91, Tryd.ntmps91
    go_wp2
    go_region
    go_wp2
    go_ret
    exact ⟨_, rfl, Row.none _ _, by repeat' (first | exact Below.refl _ _ | apply below_drewN)⟩
  · have c0 : w.cell? ⟨b, 0, none⟩ = some (.slice (some ⟨g, 0, none⟩) (bc l).length cap) := hbk.c0
    have c1 : w.cell? ⟨b, 1, none⟩ = some (.int .i64 0) := hbk.c1
    have hR : Row w B (.slice (some ⟨g, 0, none⟩) l.length cap) l := by
      have hl := bc_len l
      rw [hl] at hnc htk
      exact ⟨by rw [hl]; omega, .inr ⟨g, cap, cur, rfl, hBg, hg, hnc, hcm, by omega, by rw [Nat.mul_one]; exact htk⟩⟩
    rw [bc_len] at c0 hnc
    unfold maxLen at hcm
    clear hbk htk hg hcs
    go_enter Tryd.func91, Tryd.ntmps91
    go_wp2
    go_region
    go_wp2
    go_ret
    exact ⟨_, rfl, hR, (Below.refl _ _).drew⟩

/-- A new writer. -/
theorem wr_new (w : World) (B : Nat) (hB : B ≤ w.heap.size) : Wr (w.alloc (.cells #[.slice none 0 0, .int .i64 0, .int .i8 0] 120)) B w.heap.size [] :=
  LibA.zero_isBuffer hB (LibA.three_whole (heap_alloc_new w _))

set_option maxHeartbeats 1000000 in
theorem num_any (n : Nat) (hn : n < 9223372036854775808) (w : World) :
    Calls Tryd.prog 43 #[.int .i64 n] w fun e w' => ∃ v, e = .returned v ∧ Row w' w.heap.size v (numW n) ∧ Below w.heap.size w w' := by
  have HN : Hid (∀ W : World, Wr W w.heap.size w.heap.size [] → w.heap.size ≤ W.heap.size → Calls Tryd.prog 90 #[.pointer (some ⟨w.heap.size, 0, none⟩), .int .i64 n] W fun e w' => e = .returned (.tuple #[]) ∧ Wr w' w.heap.size w.heap.size ([] ++ numW n) ∧ Below w.heap.size W w') :=
    fun W h hB => wnumber_any w.heap.size w.heap.size n hn [] (by decide) W h hB
  have HW := hid (wr_new w w.heap.size (Nat.le_refl _))
  obtain ⟨y, hy⟩ : ∃ y : Int, (n : Int) = y := ⟨_, rfl⟩
  rw [hy] at HN
  rw [hy]
  clear hy hn
  go_enter Tryd.func43, Tryd.ntmps43
  go_wp2_with (first | (go_at_call 90; refine (HN.out _ HW.out (by simp)).mono ?_; rintro e w1 ⟨rfl, h1, h2⟩) | (go_at_call 91; refine (wbytes_any _ _ _ _ h1).mono ?_; rintro e w2 ⟨v, rfl, h3, h4⟩))
  go_ret
  exact ⟨_, rfl, h3, (((Below.refl _ _).alloc (Nat.le_refl _) _).trans h2).trans (h4.mono (by have := h2.size; simp at this; omega))⟩
end Go.Proofs.YtfcnobcpnhfgmaaDoor
