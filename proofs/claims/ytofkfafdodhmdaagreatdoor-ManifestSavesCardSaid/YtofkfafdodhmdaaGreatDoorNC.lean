/- Several texts in one: SC SD SE SFa SF SG SLa SHb. Conditions: as each theorem names them. -/
import Derived.Test.YtofkfafdodhmdaaGreatDoorNA
import Derived.Test.YtofkfafdodhmdaaGreatDoorShelf
import Derived.WalkKit
import Derived.WalkSpells
import Derived.WalkLawsBesides
import Derived.Defers
import Derived.Recover
import Derived.Test.YtofkfafdodhmdaaGreatDoorNB
import Derived.Lib.SliceRun
import Derived.Deep.RegionHeld3
import Derived.Lib.AppendZeros
import Derived.Deep.AppendSrc
/- The writer of package codec: a number's bytes behind what a buffer holds; codec.Num at every number. Conditions: buffers of at most a million bytes. -/
namespace Go.Proofs.YtofkfafdodhmdaaGreatDoor
open Go.RowKit

/-- A writer in block b (one of the call's own) that holds the bytes l. -/
abbrev Wr (w : World) (B b : Nat) (l : List UInt8) : Prop := LibA.IsBuffer 133 (fun _ => none) 5 B b 0 (bc l) w

theorem wbyte (B b : Nat) (l : List UInt8) (hl : l.length ≤ 1000000) (c : UInt8) (x : Int) (hx : x = (c.toNat : Int)) (w : World) (h : Wr w B b l) (hB : B ≤ w.heap.size) :
    Calls Tryz.prog 99 #[.pointer (some ⟨b, 0, none⟩), .int .u8 x] w fun e w' => e = .returned .nilIface ∧ Wr w' B b (l ++ [c]) ∧ Below B w w' := by
  subst hx
  refine (Tryz.Buffer_WriteByte_at 133 (fun _ => none) B b 0 (bc l) (c.toNat : Int) w h hB (bc_one l) (by rw [bc_len]; omega)).mono ?_
  rintro e w' ⟨rfl, h1, h2, -⟩
  refine ⟨rfl, ?_, h2⟩
  unfold Wr
  rw [bc_app]
  exact h1

theorem or_more (m : Nat) : bits .or .u8 ((m : Int) % 256) 128 = (((UInt8.ofNat (128 + m % 128)).toNat : Nat) : Int) := by
  have e0 : ((m : Int) % 256) = ((m % 256 : Nat) : Int) := by omega
  rw [e0, show (128 : Int) = ((128 : Nat) : Int) from rfl, u8_or_nat _ _ (by omega) (by decide), UInt8.toNat_ofNat']
  have e1 : m % 256 ||| 128 = 128 + m % 128 := by
    have h2 : m % 256 = m % 256 / 128 * 128 + m % 128 := by omega
    have h3 : m % 256 / 128 = 0 ∨ m % 256 / 128 = 1 := by omega
    rcases h3 with h3 | h3
    · rw [h2, h3, Nat.zero_mul, Nat.zero_add, Nat.or_comm]
      exact nat_join7 128 (m % 128) (by decide) (by omega)
    · have e : 1 * 128 + m % 128 = 128 ||| m % 128 := by rw [nat_join7 128 (m % 128) (by decide) (by omega)]
      rw [h2, h3, e, Nat.or_comm, ← Nat.or_assoc, Nat.or_self]
  rw [e1]
  omega
theorem numW_len9 (n : Nat) (hn : n < 9223372036854775808) : (numW n).length ≤ 9 := numW_len 8 n hn

set_option maxHeartbeats 1000000 in
theorem wnumber_any (B b n : Nat) (hn : n < 9223372036854775808) (l : List UInt8) (hl : l.length ≤ 1000) (w : World) (h : Wr w B b l) (hB : B ≤ w.heap.size) :
    Calls Tryz.prog 75 #[.pointer (some ⟨b, 0, none⟩), .int .i64 n] w fun e w' => e = .returned (.tuple #[]) ∧ Wr w' B b (l ++ numW n) ∧ Below B w w' := by
  have hlen := hid (numW_len9 n hn)
  obtain ⟨y, hy⟩ : ∃ y : Int, (n : Int) = y := ⟨_, rfl⟩
  have HY := hid (And.intro hy.symm hn)
  rw [hy]
  have H0 : 0 ≤ y := by omega
  clear hy hn
  go_enter Tryz.func75, Tryz.ntmps75
  go_wp2
  go_loopw [1] (fun vn wr => ∃ (m : Nat) (x : Int) (pre : List UInt8), Hid (x = (m : Int) ∧ m < 9223372036854775808) ∧ 0 ≤ x ∧ vn = .int .i64 x ∧ numW n = pre ++ numW m ∧ Wr wr B b (l ++ pre) ∧ Below B w wr) (fun vn _ => (intOf vn).toNat)
  case atStart => exact ⟨n, y, [], HY, H0, rfl, rfl, by simpa using h, Below.refl _ _⟩
  case round =>
    obtain ⟨m, x, pre, HX, h0, rfl, hp, hW, hbel⟩ := hrel
    have HC : Hid (∀ (z : Int) (c : UInt8), z = (c.toNat : Int) → Calls Tryz.prog 99 #[.pointer (some ⟨b, 0, none⟩), .int .u8 z] wr fun e w' => e = .returned .nilIface ∧ Wr w' B b (l ++ pre ++ [c]) ∧ Below B wr w') := by
      intro z c hz
      have hpl : pre.length ≤ 9 := by have := congrArg List.length hp; have h9 := hlen.out; rw [List.length_append] at this; omega
      exact wbyte B b (l ++ pre) (by rw [List.length_append]; omega) c z hz wr hW (Nat.le_trans hB hbel.size)
    by_cases h128 : x < 128
    · have HE : Hid (x = ((UInt8.ofNat m).toNat : Int)) := by unfold Hid; have := HX.out; rw [UInt8.toNat_ofNat']; omega
      have HN : Hid (numW m = [UInt8.ofNat m]) := numW_small (by have := HX.out; omega)
      have HP := hid hp
      clear hW hlen hp
      go_wp2_with (go_at_call 99; refine (HC.out _ _ HE.out).mono ?_; rintro e w1 ⟨rfl, h1, h2⟩)
      go_end0
      refine ⟨rfl, ?_, hbel.trans h2⟩
      rw [HP.out, HN.out, ← List.append_assoc]
      exact h1
    · have HO : Hid (bits .or .u8 (x % 256) 128 = (((UInt8.ofNat (128 + m % 128)).toNat : Nat) : Int)) := by have := or_more m; rwa [← HX.out.1] at this
      have HN : Hid (numW m = UInt8.ofNat (128 + m % 128) :: numW (m / 128)) := numW_big (by have := HX.out; omega)
      have HP := hid hp
      clear hW hlen hp
      go_wp2_with (go_at_call 99; refine (HC.out _ _ HO.out).mono ?_; rintro e w1 ⟨rfl, h1, h2⟩)
      go_roundw
      case rel =>
        refine ⟨m / 128, x / 128, pre ++ [UInt8.ofNat (128 + m % 128)], ?_, ?_, rfl, ?_, ?_, hbel.trans h2⟩
        · unfold Hid; have := HX.out; omega
        · omega
        · rw [HP.out, HN.out, List.append_assoc]; rfl
        · rw [← List.append_assoc]; exact h1
      case measure => simp [intOf]; omega

set_option maxHeartbeats 1000000 in
theorem wnumber_neg (b : Nat) (n : Int) (hn : n < 0) (w : World) :
    Calls Tryz.prog 75 #[.pointer (some ⟨b, 0, none⟩), .int .i64 n] w fun e w' => e = .returned (.tuple #[]) ∧ w = w' := by
  go_enter Tryz.func75, Tryz.ntmps75
  go_wp2
  refine bodyPost_ret (results_none rfl _ _ _) rfl ?_
  exact ⟨rfl, rfl⟩

/-- What a writer holds, as a slice. -/
theorem wbytes_any (B b : Nat) (l : List UInt8) (w : World) (h : Wr w B b l) :
    Calls Tryz.prog 76 #[.pointer (some ⟨b, 0, none⟩)] w fun e w' => ∃ v, e = .returned v ∧ Row w' B v l ∧ Below w.heap.size w w' := by
  obtain ⟨hB, lr, hc⟩ := h.cases
  rcases hc with ⟨hnil, hbk⟩ | ⟨g, cap, cur, hbk, hBg, hg, hnc, hcm, hcs, htk, hgb⟩
  · have hl : l = [] := by
      unfold bc at hnil; exact List.map_eq_nil_iff.1 hnil
    subst hl
    have c0 : w.cell? ⟨b, 0, none⟩ = some (.slice none 0 0) := hbk.c0
    have c1 : w.cell? ⟨b, 1, none⟩ = some (.int .i64 0) := hbk.c1
    have f0 : w.frozen? ⟨b, 0, none⟩ = false := hbk.f 0
    have f1 : w.frozen? ⟨b, 1, none⟩ = false := hbk.f 1
    clear hbk
    go_enter Tryz.func76, Tryz.ntmps76
    go_wp2
    go_region
    go_wp2
    go_ret
    exact ⟨_, rfl, Row.none _ _, by repeat' (first | exact Below.refl _ _ | apply Go.below_drewN)⟩
  · have c0 : w.cell? ⟨b, 0, none⟩ = some (.slice (some ⟨g, 0, none⟩) (bc l).length cap) := hbk.c0
    have c1 : w.cell? ⟨b, 1, none⟩ = some (.int .i64 0) := hbk.c1
    have hR : Row w B (.slice (some ⟨g, 0, none⟩) l.length cap) l := by
      have hl := bc_len l
      rw [hl] at hnc htk
      exact ⟨by rw [hl]; omega, .inr ⟨g, cap, cur, rfl, hBg, hg, hnc, hcm, by omega, by rw [Nat.mul_one]; exact htk⟩⟩
    rw [bc_len] at c0 hnc
    unfold maxLen at hcm
    clear hbk htk hg hcs
    go_enter Tryz.func76, Tryz.ntmps76
    go_wp2
    go_region
    go_wp2
    go_ret
    exact ⟨_, rfl, hR, (Below.refl _ _).drew⟩

/-- A new writer. -/
theorem wr_new (w : World) (B : Nat) (hB : B ≤ w.heap.size) : Wr (w.alloc (.cells #[.slice none 0 0, .int .i64 0, .int .i8 0] 133)) B w.heap.size [] :=
  LibA.zero_isBuffer hB (LibA.three_whole (heap_alloc_new w _))

set_option maxHeartbeats 1000000 in
theorem num_any (n : Nat) (hn : n < 9223372036854775808) (w : World) :
    Calls Tryz.prog 39 #[.int .i64 n] w fun e w' => ∃ v, e = .returned v ∧ Row w' w.heap.size v (numW n) ∧ Below w.heap.size w w' := by
  have HN : Hid (∀ W : World, Wr W w.heap.size w.heap.size [] → w.heap.size ≤ W.heap.size → Calls Tryz.prog 75 #[.pointer (some ⟨w.heap.size, 0, none⟩), .int .i64 n] W fun e w' => e = .returned (.tuple #[]) ∧ Wr w' w.heap.size w.heap.size ([] ++ numW n) ∧ Below w.heap.size W w') :=
    fun W h hB => wnumber_any w.heap.size w.heap.size n hn [] (by decide) W h hB
  have HW := hid (wr_new w w.heap.size (Nat.le_refl _))
  obtain ⟨y, hy⟩ : ∃ y : Int, (n : Int) = y := ⟨_, rfl⟩
  rw [hy] at HN
  rw [hy]
  clear hy hn
  go_enter Tryz.func39, Tryz.ntmps39
  go_wp2_with (first | (go_at_call 75; refine (HN.out _ HW.out (by simp)).mono ?_; rintro e w1 ⟨rfl, h1, h2⟩) | (go_at_call 76; refine (wbytes_any _ _ _ _ h1).mono ?_; rintro e w2 ⟨v, rfl, h3, h4⟩))
  go_ret
  exact ⟨_, rfl, h3, (((Below.refl _ _).alloc (Nat.le_refl _) _).trans h2).trans (h4.mono (by have := h2.size; simp at this; omega))⟩
end Go.Proofs.YtofkfafdodhmdaaGreatDoor

/- The reader of package codec: a byte, some bytes, a number; each ends in what it reads or in the panic that tells of something else. Conditions: the slice that is read holds its bytes. -/
namespace Go.Proofs.YtofkfafdodhmdaaGreatDoor
open Go.RowKit

/-- The panic of a reader that meets something else. -/
abbrev otherP : Ending := .panicked [{ v := .iface 167 (.agg #[]), recovered := false }]

set_option maxHeartbeats 400000 in
theorem want_yes (rb : Nat) (w : World) : Calls Tryz.prog 119 #[.pointer (some ⟨rb, 0, none⟩), .bool true] w fun e w' => e = .returned (.tuple #[]) ∧ w = w' := by
  go_enter Tryz.func119, Tryz.ntmps119
  go_wp2
  go_end0
  exact ⟨rfl, rfl⟩

set_option maxHeartbeats 400000 in
theorem want_no (rb : Nat) (w : World) : Calls Tryz.prog 119 #[.pointer (some ⟨rb, 0, none⟩), .bool false] w fun e w' => e = otherP ∧ w = w' := by
  go_enter Tryz.func119, Tryz.ntmps119
  go_wp2
  refine ⟨rfl, ?_⟩
  exact ⟨rfl, rfl⟩

set_option maxHeartbeats 1000000 in
theorem some_in (rb b off m c k : Nat) (hk : k < c) (hm : k ≤ m) (_hmc : m ≤ c) (hc : c ≤ 9223372036854775807) (w : World) (h0 : w.cell? ⟨rb, 0, none⟩ = some (.slice (some ⟨b, off, none⟩) m c)) (hf : w.frozen? ⟨rb, 0, none⟩ = false) :
    Calls Tryz.prog 145 #[.pointer (some ⟨rb, 0, none⟩), .int .i64 k] w fun e w' => e = .returned (.slice (some ⟨b, off, none⟩) k c) ∧ w' = w.setCell ⟨rb, 0, none⟩ (.slice (some ⟨b, off + k, none⟩) (m - k) (c - k)) := by
  go_enter Tryz.func145, Tryz.ntmps145
  go_wp2_with (go_at_call 119; refine (want_yes _ _).mono ?_; rintro e w1 ⟨rfl, rfl⟩)
  go_ret
  exact ⟨rfl, rfl⟩

set_option maxHeartbeats 1000000 in
/-- All bytes up to the capacity: what is left is nothing, at the address where it was. -/
theorem some_all (rb b off k : Nat) (_hc : k ≤ 9223372036854775807) (w : World) (h0 : w.cell? ⟨rb, 0, none⟩ = some (.slice (some ⟨b, off, none⟩) k k)) (hf : w.frozen? ⟨rb, 0, none⟩ = false) :
    Calls Tryz.prog 145 #[.pointer (some ⟨rb, 0, none⟩), .int .i64 k] w fun e w' => e = .returned (.slice (some ⟨b, off, none⟩) k k) ∧ w' = w.setCell ⟨rb, 0, none⟩ (.slice (some ⟨b, off, none⟩) 0 0) := by
  go_enter Tryz.func145, Tryz.ntmps145
  go_wp2_with (go_at_call 119; refine (want_yes _ _).mono ?_; rintro e w1 ⟨rfl, rfl⟩)
  go_ret
  exact ⟨rfl, rfl⟩

set_option maxHeartbeats 1000000 in
theorem some_no (rb m c k : Nat) (A : Option Addr) (hk : m < k) (w : World) (h0 : w.cell? ⟨rb, 0, none⟩ = some (.slice A m c)) :
    Calls Tryz.prog 145 #[.pointer (some ⟨rb, 0, none⟩), .int .i64 k] w fun e w' => e = otherP ∧ w = w' := by
  have hk' : ¬ k ≤ m := by omega
  go_enter Tryz.func145, Tryz.ntmps145
  go_wp2_with (go_at_call 119; refine (want_no _ _).mono ?_; rintro e w1 ⟨rfl, rfl⟩)
  refine ⟨rfl, ?_⟩
  exact ⟨rfl, rfl⟩

/-- What is left of the slice behind k of its bytes. -/
def restV (b off m c k : Nat) : Value := if k < c then .slice (some ⟨b, off + k, none⟩) (m - k) (c - k) else .slice (some ⟨b, off, none⟩) 0 0

set_option maxHeartbeats 1000000 in
theorem one_yes (rb b off m c x : Nat) (hm : 1 ≤ m) (hmc : m ≤ c) (hc : c ≤ 9223372036854775807) (w : World) (h0 : w.cell? ⟨rb, 0, none⟩ = some (.slice (some ⟨b, off, none⟩) m c)) (hf : w.frozen? ⟨rb, 0, none⟩ = false) (hx : w.cell? ⟨b, off, none⟩ = some (.int .u8 (x : Int))) (hne : b ≠ rb) :
    Calls Tryz.prog 118 #[.pointer (some ⟨rb, 0, none⟩)] w fun e w' => e = .returned (.int .u8 (x : Int)) ∧ w' = w.setCell ⟨rb, 0, none⟩ (restV b off m c 1) := by
  have HS : Calls Tryz.prog 145 #[.pointer (some ⟨rb, 0, none⟩), .int .i64 1] w fun e w' => ∃ c', 1 ≤ c' ∧ e = .returned (.slice (some ⟨b, off, none⟩) 1 c') ∧ w' = w.setCell ⟨rb, 0, none⟩ (restV b off m c 1) := by
    by_cases h1 : 1 < c
    · refine (some_in rb b off m c 1 h1 hm hmc hc w h0 hf).mono fun e w' ⟨he, hw⟩ => ⟨c, by omega, he, ?_⟩
      unfold restV; rw [if_pos h1]; exact hw
    · obtain rfl : c = 1 := by omega
      obtain rfl : m = 1 := by omega
      refine (some_all rb b off 1 (by omega) w h0 hf).mono fun e w' ⟨he, hw⟩ => ⟨1, by omega, he, ?_⟩
      unfold restV; rw [if_neg h1]; exact hw
  have HX : (w.setCell ⟨rb, 0, none⟩ (restV b off m c 1)).cell? ⟨b, off, none⟩ = some (.int .u8 (x : Int)) := by
    rw [World.cell?_setCell_other _ _ _ _ (by intro e; exact hne (by simpa using (congrArg Addr.block e).symm))]; exact hx
  obtain ⟨W, hW⟩ : ∃ W, w.setCell ⟨rb, 0, none⟩ (restV b off m c 1) = W := ⟨_, rfl⟩
  rw [hW] at HS HX
  rw [hW]
  have HH := hid HS
  clear h0 hf hx hW HS
  go_enter Tryz.func118, Tryz.ntmps118
  go_wp2_with (go_at_call 145; refine HH.out.mono ?_; rintro e w1 ⟨c', hc', rfl, rfl⟩)
  go_ret
  exact ⟨rfl, rfl⟩

set_option maxHeartbeats 1000000 in
theorem one_no (rb c : Nat) (A : Option Addr) (w : World) (h0 : w.cell? ⟨rb, 0, none⟩ = some (.slice A 0 c)) :
    Calls Tryz.prog 118 #[.pointer (some ⟨rb, 0, none⟩)] w fun e w' => e = otherP ∧ w = w' := by
  go_enter Tryz.func118, Tryz.ntmps118
  go_wp2_with (go_at_call 145; refine (some_no rb 0 c 1 A (by decide) _ h0).mono ?_; rintro e w1 ⟨rfl, rfl⟩)
  refine ⟨rfl, ?_⟩
  exact ⟨rfl, rfl⟩

/-- What lay below B is as it was, but for block rb. -/
structure But (B rb : Nat) (w w' : World) : Prop where
  os : w'.os = w.os
  tape : w'.tape = w.tape
  output : w'.output = w.output
  size : w.heap.size ≤ w'.heap.size
  block : ∀ k, k < B → k ≠ rb → w'.heap[k]? = w.heap[k]?
section
variable {B rb : Nat} {w w1 w' : World}
theorem But.refl (B rb : Nat) (w : World) : But B rb w w := ⟨rfl, rfl, rfl, Nat.le_refl _, fun _ _ _ => rfl⟩
theorem But.trans (h : But B rb w w1) (k : But B rb w1 w') : But B rb w w' := ⟨k.os.trans h.os, k.tape.trans h.tape, k.output.trans h.output, Nat.le_trans h.size k.size, fun j hj hr => (k.block j hj hr).trans (h.block j hj hr)⟩
theorem But.mono {B' : Nat} (h : But B rb w w') (hb : B' ≤ B) : But B' rb w w' := ⟨h.os, h.tape, h.output, h.size, fun j hj => h.block j (Nat.lt_of_lt_of_le hj hb)⟩
theorem But.setCell (h : But B rb w w1) (o : Nat) (v : Value) : But B rb w (w1.setCell ⟨rb, o, none⟩ v) :=
  ⟨h.os, h.tape, h.output, by simpa using h.size, fun j hj hr => (Below.heap_setCell _ _ _ _ hr).trans (h.block j hj hr)⟩
theorem But.of_below (h : Below B w w') (rb : Nat) : But B rb w w' := ⟨h.os, h.tape, h.output, h.size, fun j hj _ => h.block j hj⟩
theorem But.below (h : But B rb w w') (hb : B ≤ rb) : Below B w w' := ⟨h.os, h.tape, h.output, h.size, fun j hj => h.block j hj (by omega)⟩
theorem But.cell (h : But B rb w w') {k : Nat} (hk : k < B) (hr : k ≠ rb) (o : Nat) : w'.cell? ⟨k, o, none⟩ = w.cell? ⟨k, o, none⟩ := World.cell?_of_block (w := w) (h.block k hk hr)
theorem But.frozen (h : But B rb w w') {k : Nat} (hk : k < B) (hr : k ≠ rb) (o : Nat) : w'.frozen? ⟨k, o, none⟩ = w.frozen? ⟨k, o, none⟩ := World.frozen?_of_block (w := w) (h.block k hk hr)
end

/-- A reader in block rb: the bytes l are left. -/
def Rd (w : World) (rb : Nat) (v : Value) (l : List UInt8) : Prop :=
  ∃ A c, v = .slice A l.length c ∧ l.length ≤ c ∧ c ≤ 9223372036854775807 ∧ (0 < l.length → ∃ b off, A = some ⟨b, off, none⟩ ∧ b < rb ∧ Holds w b off l)
def St (w : World) (rb : Nat) (l : List UInt8) : Prop := (∃ v, w.cell? ⟨rb, 0, none⟩ = some v ∧ Rd w rb v l) ∧ w.frozen? ⟨rb, 0, none⟩ = false ∧ rb < w.heap.size
theorem Rd.below {w w' : World} {rb : Nat} {v : Value} {l : List UInt8} (h : Rd w rb v l) (hb : Below rb w w') : Rd w' rb v l := by
  obtain ⟨A, c, h1, h2, h3, h4⟩ := h
  refine ⟨A, c, h1, h2, h3, fun hl => ?_⟩
  obtain ⟨b, off, h5, h6, h8⟩ := h4 hl
  exact ⟨b, off, h5, h6, h8.below hb h6⟩
theorem But.low {rb : Nat} {w w' : World} (h : But w.heap.size rb w w') (hlt : rb < w.heap.size) : Below rb w w' := (h.mono (Nat.le_of_lt hlt)).below (Nat.le_refl _)
/-- What leaves the reader's block alone, and all below it, leaves the reader as it was. -/
theorem St.keep {w w' : World} {rb : Nat} {l : List UInt8} (h : St w rb l) (hb : Below (rb + 1) w w') : St w' rb l := by
  obtain ⟨⟨v, h1, h2⟩, h3, h4⟩ := h
  exact ⟨⟨v, (hb.cell (p := ⟨rb, 0, none⟩) (by simp)).trans h1, h2.below (hb.mono (by omega))⟩, (hb.frozen (p := ⟨rb, 0, none⟩) (by simp)).trans h3, Nat.lt_of_lt_of_le h4 hb.size⟩
theorem cell_set_rb {w : World} {rb : Nat} {v0 : Value} (h : w.cell? ⟨rb, 0, none⟩ = some v0) (v : Value) : (w.setCell ⟨rb, 0, none⟩ v).cell? ⟨rb, 0, none⟩ = some v :=
  World.cell?_setCell_same' _ _ _ (by rw [h]; rfl)
theorem rd_rest {w : World} {rb b off c k : Nat} {l : List UInt8} (hk : k ≤ l.length) (hc : l.length ≤ c) (hc2 : c ≤ 9223372036854775807) (hb : b < rb) (hh : Holds w b off l) : Rd w rb (restV b off l.length c k) (l.drop k) := by
  unfold restV
  by_cases h1 : k < c
  · rw [if_pos h1]
    exact ⟨_, c - k, by rw [List.length_drop], by rw [List.length_drop]; omega, by omega, fun _ => ⟨b, off + k, rfl, hb, hh.drop k⟩⟩
  · rw [if_neg h1]
    have : l.drop k = [] := List.drop_eq_nil_of_le (by omega)
    rw [this]
    exact ⟨_, 0, rfl, by simp, by omega, fun h => absurd h (by simp)⟩

def OneEnd (w : World) (rb : Nat) : List UInt8 → Ending → World → Prop
  | [], e, w' => But w.heap.size rb w w' ∧ e = otherP
  | x :: t, e, w' => But w.heap.size rb w w' ∧ e = .returned (.int .u8 (x.toNat : Int)) ∧ St w' rb t
theorem one_any (rb : Nat) (l : List UInt8) (w : World) (h : St w rb l) :
    Calls Tryz.prog 118 #[.pointer (some ⟨rb, 0, none⟩)] w (OneEnd w rb l) := by
  obtain ⟨⟨v, h0, A, c, rfl, h2, h3, h4⟩, hf, hlt⟩ := h
  match l, h2, h4, h0 with
  | [], h2, h4, h0 =>
    exact (one_no rb c A w h0).mono fun e w' ⟨he, hw⟩ => ⟨by subst hw; exact But.refl _ _ _, he⟩
  | x :: t, h2, h4, h0 =>
    obtain ⟨b, off, rfl, hb, hh⟩ := h4 (by simp)
    have hx := hh 0 (by simp)
    refine (one_yes rb b off (x :: t).length c x.toNat (by simp) h2 h3 w h0 hf (by simpa using hx) (by omega)).mono fun e w' ⟨he, hw⟩ => ?_
    have hB : But w.heap.size rb w w' := by rw [hw]; exact (But.refl _ _ _).setCell _ _
    refine ⟨hB, he, ⟨_, by rw [hw]; exact cell_set_rb h0 _, ?_⟩, ?_, ?_⟩
    · have := rd_rest (w := w) (rb := rb) (k := 1) (l := x :: t) (by simp) h2 h3 hb hh
      exact this.below (hB.low hlt)
    · rw [hw, World.frozen?_setCell]; exact hf
    · exact Nat.lt_of_lt_of_le hlt hB.size
end Go.Proofs.YtofkfafdodhmdaaGreatDoor

/- The reader's number at any bytes: the number and what is left behind it, or the panic. Conditions: the reader holds the bytes. -/
namespace Go.Proofs.YtofkfafdodhmdaaGreatDoor
open Go.RowKit

def NInv2 (w : World) (rb : Nat) (l : List UInt8) (vn vi : Value) (wr : World) : Prop :=
  ∃ (k n : Nat) (N i : Int) (t : List UInt8), Hid (k ≤ 9 ∧ i = (k : Int) ∧ N = (n : Int) ∧ n < 2 ^ (7 * k)) ∧ vn = .int .i64 N ∧ vi = .int .i64 i ∧ 0 ≤ i ∧
    tk l = (tkGo (9 - k) k t).map (fun p => (n + 2 ^ (7 * k) * p.1, p.2)) ∧ St wr rb t ∧ But w.heap.size rb w wr
def NEndO (w : World) (rb : Nat) : Option (Nat × List UInt8) → Ending → World → Prop
  | some p, e, w' => But w.heap.size rb w w' ∧ e = .returned (.int .i64 (p.1 : Int)) ∧ St w' rb p.2
  | none, e, w' => But w.heap.size rb w w' ∧ e = otherP
def NEnd (w : World) (rb : Nat) (l : List UInt8) (e : Ending) (w' : World) : Prop := NEndO w rb (tk l) e w'

set_option maxRecDepth 100000 in
set_option maxHeartbeats 1000000 in
theorem number_any (rb : Nat) (l : List UInt8) (w : World) (h : St w rb l) :
    Calls Tryz.prog 102 #[.pointer (some ⟨rb, 0, none⟩)] w (NEnd w rb l) := by
  go_enter Tryz.func102, Tryz.ntmps102
  go_wp2
  go_loopw [3, 6] (fun vn vi wr => NInv2 w rb l vn vi wr) (fun _ vi _ => 9 - (intOf vi).toNat)
  case atStart => exact ⟨0, 0, 0, 0, l, ⟨by omega, rfl, rfl, by decide⟩, rfl, rfl, by omega, by unfold tk; simp, h, But.refl _ _ _⟩
  case round =>
    obtain ⟨k, n, N, i, t, HK, rfl, rfl, hi, ht, hS, hb⟩ := hrel
    by_cases h9 : i < 9
    · have HO := hid (one_any rb t wr hS)
      clear hS
      cases t with
      | nil =>
        go_wp2_with (go_at_call 118; refine HO.out.mono ?_; rintro e w1 ⟨hb1, rfl⟩)
        refine ⟨rfl, ?_⟩
        have e : tk l = none := by
          rw [ht]
          cases 9 - k <;> rfl
        unfold NEnd
        rw [e]
        exact ⟨hb.trans (hb1.mono hb.size), rfl⟩
      | cons x t =>
        have hx := u8_lt x
        obtain ⟨y, hy⟩ : ∃ y : Int, ((x.toNat : Nat) : Int) = y := ⟨_, rfl⟩
        have HY := hid hy
        have HO : Hid (Calls Tryz.prog 118 #[.pointer (some ⟨rb, 0, none⟩)] wr fun e w' => But wr.heap.size rb wr w' ∧ e = .returned (.int .u8 y) ∧ St w' rb t) := by rw [← hy]; exact HO.out
        have hy0 : 0 ≤ y := by omega
        have hy1 : y < 256 := by omega
        have HV : Hid (k ≤ 8 ∧ bits .or .i64 N (wrap64 (wrap64 (bits .andNot .u8 y 128) * 2 ^ (7 * i).toNat)) = ((n + 2 ^ (7 * k) * (x.toNat % 128) : Nat) : Int)) := by
          obtain ⟨h1, h2, h3, h4⟩ := HK.out
          have hk8 : k ≤ 8 := by omega
          refine ⟨hk8, ?_⟩
          have hp : (2 : Nat) ^ (7 * k) ≤ 2 ^ 56 := Nat.pow_le_pow_right (by decide) (by omega)
          have hm : 2 ^ (7 * k) * (x.toNat % 128) ≤ 2 ^ 56 * 127 := Nat.mul_le_mul hp (by omega)
          have e1 : wrap64 (bits .andNot .u8 y 128) = ((x.toNat % 128 : Nat) : Int) := by
            rw [← hy, clear_top _ hx]; unfold wrap64; omega
          have e2 : (7 * i).toNat = 7 * k := by omega
          have e3 : ((x.toNat % 128 : Nat) : Int) * 2 ^ (7 * k) = ((2 ^ (7 * k) * (x.toNat % 128) : Nat) : Int) := by
            push_cast
            rw [Int.mul_comm]
          have e4 : wrap64 (((2 ^ (7 * k) * (x.toNat % 128) : Nat) : Int)) = ((2 ^ (7 * k) * (x.toNat % 128) : Nat) : Int) := by
            unfold wrap64; omega
          rw [e1, e2, e3, e4, h3]
          exact or_part n (x.toNat % 128) k h4 (by omega) hk8
        have HT := hid ht
        clear hy hx ht
        by_cases hA : y < 128
        · by_cases hz : y = 0
          · subst hz
            by_cases h0 : i = 0
            · subst h0
              go_wp2_with (first | (go_at_call 118; refine HO.out.mono ?_; rintro e w1 ⟨hb1, rfl, hS1⟩) | (go_at_call 119; refine (want_yes _ _).mono ?_; rintro e w2 ⟨rfl, rfl⟩))
              go_ret
              have hV := HV.out.2
              rw [show (2 : Int) ^ (7 * (0 : Int)).toNat = 1 from rfl, Int.mul_one] at hV
              rw [hV]
              obtain ⟨h1, h2, h3, h4⟩ := HK.out
              have hk : k = 0 := by omega
              have hY : x.toNat = 0 := by have := HY.out; omega
              have e : tk l = some (n + 2 ^ (7 * k) * (x.toNat % 128), t) := by
                rw [HT.out, hk, hY, show 9 - 0 = 8 + 1 by omega, tkGo, hY, if_pos (by omega), if_neg (by omega)]; rfl
              unfold NEnd
              rw [e]
              exact ⟨hb.trans (hb1.mono hb.size), rfl, hS1⟩
            · have hd := hid (show (i == 0) = false by simpa using h0)
              go_wp2_with (first | (go_at_call 118; refine HO.out.mono ?_; rintro e w1 ⟨hb1, rfl, hS1⟩) | (go_at_call 119; rw [hd.out]; refine (want_no _ _).mono ?_; rintro e w2 ⟨rfl, rfl⟩))
              refine ⟨rfl, ?_⟩
              obtain ⟨h1, h2, h3, h4⟩ := HK.out
              have hV := HV.out.1
              have hY : x.toNat = 0 := by have := HY.out; omega
              have e : tk l = none := by
                rw [HT.out, show 9 - k = (9 - (k + 1)) + 1 by omega, tkGo, hY, if_pos (by omega), if_pos (by omega)]; rfl
              unfold NEnd
              rw [e]
              exact ⟨hb.trans (hb1.mono hb.size), rfl⟩
          · go_wp2_with (first | (go_at_call 118; refine HO.out.mono ?_; rintro e w1 ⟨hb1, rfl, hS1⟩) | (go_at_call 119; refine (want_yes _ _).mono ?_; rintro e w2 ⟨rfl, rfl⟩))
            go_ret
            have hV := HV.out.2
            rw [hV]
            obtain ⟨h1, h2, h3, h4⟩ := HK.out
            have hk := HV.out.1
            have hY := HY.out
            have e : tk l = some (n + 2 ^ (7 * k) * (x.toNat % 128), t) := by
              rw [HT.out, show 9 - k = (9 - (k + 1)) + 1 by omega, tkGo, if_pos (by omega), if_neg (by omega)]
              simp only [Option.map_some, Option.some.injEq, Prod.mk.injEq, and_true]
              rw [Nat.mod_eq_of_lt (by omega : x.toNat < 128)]
            unfold NEnd
            rw [e]
            exact ⟨hb.trans (hb1.mono hb.size), rfl, hS1⟩
        · go_wp2_with (go_at_call 118; refine HO.out.mono ?_; rintro e w1 ⟨hb1, rfl, hS1⟩)
          go_roundw
          case rel =>
            obtain ⟨h1, h2, h3, h4⟩ := HK.out
            have hV := HV.out
            have hY := HY.out
            refine ⟨k + 1, n + 2 ^ (7 * k) * (x.toNat % 128), _, i + 1, t, ⟨by omega, by omega, hV.2, ?_⟩, rfl, rfl, by omega, ?_, hS1, hb.trans (hb1.mono hb.size)⟩
            · rw [show 7 * (k + 1) = 7 * k + 7 by omega, Nat.pow_add]
              have hm : 2 ^ (7 * k) * (x.toNat % 128) ≤ 2 ^ (7 * k) * 127 := Nat.mul_le_mul (Nat.le_refl _) (by omega)
              omega
            · rw [HT.out, show 9 - k = (9 - (k + 1)) + 1 by omega, tkGo, if_neg (by omega), Option.map_map]
              congr 1
              funext p
              simp only [Function.comp, Prod.mk.injEq, and_true]
              rw [show 7 * (k + 1) = 7 * k + 7 by omega, Nat.pow_add, Nat.mul_add, Nat.mul_assoc, Nat.add_assoc]
          case measure => simp [intOf]; omega
    · have HT := hid ht
      clear ht
      go_wp2
      refine ⟨rfl, ?_⟩
      have hk : k = 9 := by have := HK.out; omega
      have e := HT.out
      rw [hk] at e
      unfold NEnd
      rw [e]
      exact ⟨hb, rfl⟩
end Go.Proofs.YtofkfafdodhmdaaGreatDoor

/- bytes.Clone. Conditions: the slice holds its bytes, a million at most. -/
namespace Go.Proofs.YtofkfafdodhmdaaGreatDoor
open Go.RowKit
set_option maxHeartbeats 1000000 in
theorem clone_nil (c : Nat) (w : World) : Calls Tryz.prog 67 #[.slice none 0 c] w fun e w' => ∃ v, e = .returned v ∧ Row w' w.heap.size v [] ∧ Below w.heap.size w w' := by
  have q29 : ∀ (w : World) (a : Option Addr) (n c n' c' : Nat), (binOp .eql 25 (.slice a n c) (.slice none n' c')).run Tryz.prog w = .ok (.bool a.isNone) w := fun w a n c n' c' => Lib.run_eql_slice_nil w _ _ a n c n' c' Tryz.underlying25
  go_enter Tryz.func67, Tryz.ntmps67
  go_wp2
  go_ret
  exact ⟨_, rfl, Row.none _ _, Below.refl _ _⟩

set_option maxHeartbeats 1000000 in
theorem clone_some (ad : Addr) (c : Nat) (l : List UInt8) (hl : l.length ≤ 1000000) (w : World) (hc : ∀ j u, (bc l)[j]? = some u → w.cell? (ad.add j) = some u) :
    Calls Tryz.prog 67 #[.slice (some ad) l.length c] w fun e w' => ∃ v, e = .returned v ∧ Row w' w.heap.size v l ∧ Below w.heap.size w w' := by
  have hR : Hid (Row (w.alloc (.cells #[] 5)) w.heap.size (.slice (some ⟨w.heap.size, 0, none⟩) 0 0) []) := Row.new w w.heap.size (Nat.le_refl _) [] (by unfold maxLen; simp)
  have HC : Hid (∀ (o : Obj) (j : Nat) (u : Value), (bc l)[j]? = some u → (w.alloc o).cell? (ad.add j) = some u) := fun _ j u hu => Lib.cell?_alloc_some _ (hc j u hu)
  have HL := hid hl
  clear hc hl
  have q29 : ∀ (w : World) (a : Option Addr) (n c n' c' : Nat), (binOp .eql 25 (.slice a n c) (.slice none n' c')).run Tryz.prog w = .ok (.bool a.isNone) w := fun w a n c n' c' => Lib.run_eql_slice_nil w _ _ a n c n' c' Tryz.underlying25
  go_enter Tryz.func67, Tryz.ntmps67
  go_wp2_with (at_builtin; refine wpList_append_bytes rfl (.tmp 5) (.tmp 6) rfl _ w.heap.size _ [] rfl hR.out ad l.length c l rfl rfl (HC.out _) (by have := HL.out; simp only [List.length_nil]; omega) (by simp) ?_; intro v' w' hR' hb')
  go_ret
  exact ⟨_, rfl, hR', ((Below.refl _ _).alloc (Nat.le_refl _) _).trans hb'⟩

/-- bytes.Clone of a slice that holds l. -/
theorem clone_any (A : Option Addr) (c : Nat) (l : List UInt8) (hl : l.length ≤ 1000000) (w : World) (h : HoldsA w A l) :
    Calls Tryz.prog 67 #[.slice A l.length c] w fun e w' => ∃ v, e = .returned v ∧ Row w' w.heap.size v l ∧ Below w.heap.size w w' := by
  match A, h with
  | none, h =>
    have h0 : l = [] := by
      cases l with
      | nil => rfl
      | cons x t => obtain ⟨b, off, e, _⟩ := h (by simp); cases e
    subst h0
    exact clone_nil c w
  | some ad, h =>
    refine clone_some ad c l hl w fun j u hu => ?_
    have hj : j < l.length := by
      rcases Nat.lt_or_ge j l.length with h1 | h1
      · exact h1
      · rw [bc_at, List.getElem?_eq_none h1] at hu; cases hu
    obtain ⟨b, off, e, hh⟩ := h (by omega)
    cases e
    have h3 := hh j hj
    rw [add_zero_off]
    rw [h3, ← hu, bc_at, List.getElem?_eq_getElem hj, List.getD_eq_getElem?_getD, List.getElem?_eq_getElem hj]
    rfl

end Go.Proofs.YtofkfafdodhmdaaGreatDoor

/- What holds does of a reading closure that ends or panics; bytes.Clone; codec.Take at any bytes. Conditions: the slice holds its bytes, a million at most. -/
namespace Go.Proofs.YtofkfafdodhmdaaGreatDoor
open Go.RowKit

set_option maxHeartbeats 1000000 in
theorem catch_other (older : List PanicEntry) (w : World) :
    CallsD Tryz.prog 117 #[] (.panicking ({ v := .iface 167 (.agg #[]), recovered := false } :: older)) w fun e u' w' =>
      e = .returned (.tuple #[]) ∧ u' = .panicking ({ v := .iface 167 (.agg #[]), recovered := true } :: older) ∧ Below w.heap.size w w' := by
  have h1 : ∀ w : World, (binOp BinOp.eql 20 (.iface 167 (.agg #[])) .nilIface).run Tryz.prog w = .ok (.bool false) w := fun _ => by kernel_rfl
  have h2 : ∀ w : World, (Instr.typeAssert (.iface 167 (.agg #[])) 20 167 true).run Tryz.prog w = .ok (.tuple #[.agg #[], .bool true]) w := fun _ => by kernel_rfl
  refine callsD_of_wpS Tryz.func117 rfl fun c₀ cs hu => ?_
  apply wpS_seq
  apply wpS_region
  simp [wpOpsS, go_sem, recoverD, hu, Tryz.ntmps117, Exit.thenS]
  refine wpS_of_wp ?_
  simp only [Array.replicate_succ, Array.replicate_zero, List.push_toArray, List.nil_append, List.cons_append, List.setIfInBounds_toArray, List.set_cons_succ, List.set_cons_zero]
  clear hu
  go_wp2
  cases c₀
  simp_all [bodyPostS, results, Tryz.results117]
  exact below_new w _

theorem catch_none (w : World) :
    CallsD Tryz.prog 117 #[] .returning w fun e u' w' => e = .returned (.tuple #[]) ∧ u' = .returning ∧ w' = w := by
  refine callsD_of_wpS Tryz.func117 rfl fun c₀ cs hu => ?_
  apply wpS_seq
  apply wpS_region
  simp [wpOpsS, go_sem, recoverD, hu, Tryz.ntmps117, Exit.thenS]
  refine wpS_of_wp ?_
  simp only [Array.replicate_succ, Array.replicate_zero, List.push_toArray, List.nil_append, List.cons_append, List.setIfInBounds_toArray, List.set_cons_succ, List.set_cons_zero]
  go_wp2
  cases c₀
  simp_all [bodyPostS, results, Tryz.results117]

/-- What Take's closure leaves. -/
def CEndO (w : World) (rb : Nat) : Option (Nat × List UInt8) → Ending → World → Prop
  | some p, e, w' => Below rb w w' ∧ e = .returned (.tuple #[]) ∧ St w' rb p.2 ∧ w'.cell? ⟨rb + 1, 0, none⟩ = some (.int .i64 (p.1 : Int))
  | none, e, w' => Below rb w w' ∧ e = otherP
set_option maxHeartbeats 1000000 in
theorem takeclo_any (rb : Nat) (l : List UInt8) (w : World) (h : St w rb l) (hn : w.cell? ⟨rb + 1, 0, none⟩ = some (.int .i64 0)) (hf : w.frozen? ⟨rb + 1, 0, none⟩ = false) :
    Calls Tryz.prog 101 #[.pointer (some ⟨rb, 0, none⟩), .pointer (some ⟨rb + 1, 0, none⟩)] w (CEndO w rb (tk l)) := by
  have HN := number_any rb l w h
  have hlt := h.2.2
  have hlt2 := cell_lt hn
  unfold NEnd at HN
  cases hk : tk l with
  | none =>
    rw [hk] at HN
    have HN := hid HN
    clear h hk
    go_enter Tryz.func101, Tryz.ntmps101
    go_wp2_with (go_at_call 102; refine HN.out.mono ?_; rintro e w1 ⟨hb, rfl⟩)
    refine ⟨rfl, ?_⟩
    exact ⟨(hb.mono (Nat.le_of_lt hlt)).below (Nat.le_refl _), rfl⟩
  | some p =>
    rw [hk] at HN
    obtain ⟨n, t⟩ := p
    obtain ⟨y, hy⟩ : ∃ y : Int, (n : Int) = y := ⟨_, rfl⟩
    have HN : Hid (Calls Tryz.prog 102 #[.pointer (some ⟨rb, 0, none⟩)] w fun e w' => But w.heap.size rb w w' ∧ e = .returned (.int .i64 y) ∧ St w' rb t) := by rw [← hy]; exact HN
    have HY := hid hy
    clear h hk hy
    go_enter Tryz.func101, Tryz.ntmps101
    go_wp2_with (go_at_call 102; refine HN.out.mono ?_; rintro e w1 ⟨hb, rfl, hS⟩; have hc1 := (hb.cell hlt2 (by omega) 0).trans hn; have hf1 := (hb.frozen hlt2 (by omega) 0).trans hf)
    go_end0
    refine ⟨((hb.mono (Nat.le_of_lt hlt)).below (Nat.le_refl _)).setCell (p := ⟨rb + 1, 0, none⟩) (by simp) _, rfl, ?_, ?_⟩
    · exact hS.keep ((Below.refl _ _).setCell (p := ⟨rb + 1, 0, none⟩) (by simp) _)
    · rw [HY.out]; exact World.cell?_setCell_same' _ _ _ (by rw [hc1]; rfl)

set_option maxHeartbeats 1000000 in
/-- holds over Take's closure: it ended. -/
theorem holds_yes (rb : Nat) (t : List UInt8) (n : Nat) (w : World) (H : Calls Tryz.prog 101 #[.pointer (some ⟨rb, 0, none⟩), .pointer (some ⟨rb + 1, 0, none⟩)] w (CEndO w rb (some (n, t)))) :
    Calls Tryz.prog 100 #[.func (.func 101) #[] #[.pointer (some ⟨rb, 0, none⟩), .pointer (some ⟨rb + 1, 0, none⟩)]] w fun e w' => e = .returned (.bool true) ∧ Below rb w w' ∧ St w' rb t ∧ w'.cell? ⟨rb + 1, 0, none⟩ = some (.int .i64 (n : Int)) := by
  have H := hid H
  go_enter_defers Tryz.func100, Tryz.ntmps100
  go_wp2_with (go_at_call 101; refine H.out.mono ?_; rintro e w1 ⟨hb, rfl, hS, hc⟩)
  refine leaves_cons (f := 117) (args := #[]) (by simp) (by simp [go_sem]) ?_
  refine (catch_none _).mono ?_
  rintro e u' w2 ⟨rfl, rfl, rfl⟩
  simp only [Leaves, settle, results, Tryz.results100, go_sem]
  simp
  exact ⟨hb, hS, hc⟩

set_option maxHeartbeats 1000000 in
/-- holds over Take's closure: it met something else. -/
theorem holds_no (rb : Nat) (w : World) (hlt : rb < w.heap.size) (H : Calls Tryz.prog 101 #[.pointer (some ⟨rb, 0, none⟩), .pointer (some ⟨rb + 1, 0, none⟩)] w (CEndO w rb none)) :
    Calls Tryz.prog 100 #[.func (.func 101) #[] #[.pointer (some ⟨rb, 0, none⟩), .pointer (some ⟨rb + 1, 0, none⟩)]] w fun e w' => e = .returned (.bool false) ∧ Below rb w w' := by
  have H := hid H
  go_enter_defers Tryz.func100, Tryz.ntmps100
  go_wp2_with (go_at_call 101; refine H.out.mono ?_; rintro e w1 ⟨hb, rfl⟩)
  refine leaves_cons (f := 117) (args := #[]) (by simp) (by simp [go_sem]) ?_
  refine (catch_other [] _).mono ?_
  rintro e u' w2 ⟨rfl, rfl, hb2⟩
  simp [Leaves, settle, results, Tryz.results100, go_sem]
  exact hb.trans (hb2.mono (Nat.le_trans (Nat.le_of_lt hlt) hb.size))

/-- What Take answers. -/
def TEndO (w : World) : Option (Nat × List UInt8) → Ending → World → Prop
  | some p, e, w' => ∃ v, e = .returned (.tuple #[.int .i64 (p.1 : Int), v, .bool true]) ∧ Row w' w.heap.size v p.2 ∧ Below w.heap.size w w'
  | none, e, w' => e = .returned (.tuple #[.int .i64 0, .slice none 0 0, .bool false]) ∧ Below w.heap.size w w'

/-- Where the reader and its number stand, in a world behind the beginning. -/
abbrev TkS (w : World) (n : Int) (A : Option Addr) (m c : Nat) (w' : World) : Prop :=
  Hid (Below w.heap.size w w' ∧ w.heap.size + 1 < w'.heap.size) ∧ w'.cell? ⟨w.heap.size + 1, 0, none⟩ = some (.int .i64 n) ∧ w'.cell? ⟨w.heap.size, 0, none⟩ = some (.slice A m c)
section
variable {w W W' : World} {n : Int} {A : Option Addr} {m c : Nat}
theorem tk_drew (h : TkS w n A m c W) : TkS w n A m c W.drew := ⟨hid ⟨h.1.out.1.drew, h.1.out.2⟩, h.2⟩
theorem tk_call (h : TkS w n A m c W) (hb : Below W.heap.size W W') : TkS w n A m c W' := by
  obtain ⟨hh, h1, h2⟩ := h
  have hz := hh.out.2
  exact ⟨hid ⟨hh.out.1.trans (hb.mono (by omega)), Nat.lt_of_lt_of_le hz hb.size⟩, (hb.cell (p := ⟨w.heap.size + 1, 0, none⟩) hz).trans h1, (hb.cell (p := ⟨w.heap.size, 0, none⟩) (show w.heap.size < W.heap.size by omega)).trans h2⟩
end
theorem two_cells (w : World) (x y : Value) (T U : TypeId) : let W := (w.alloc (.cells #[x] T)).alloc (.cells #[y] U)
    W.cell? ⟨w.heap.size, 0, none⟩ = some x ∧ W.cell? ⟨w.heap.size + 1, 0, none⟩ = some y ∧ W.frozen? ⟨w.heap.size, 0, none⟩ = false ∧ W.frozen? ⟨w.heap.size + 1, 0, none⟩ = false ∧ W.heap.size = w.heap.size + 2 ∧ Below w.heap.size w W := by
  have b1 : Blk (w.alloc (.cells #[x] T)) w.heap.size T #[x] := Blk.new w T #[x]
  have b2 : Blk ((w.alloc (.cells #[x] T)).alloc (.cells #[y] U)) (w.heap.size + 1) U #[y] := by have := Blk.new (w.alloc (.cells #[x] T)) U #[y]; simpa using this
  have b3 := b1.keep (below_new (w.alloc (.cells #[x] T)) (.cells #[y] U)) (by simp)
  exact ⟨b3.cell 0, b2.cell 0, b3.free 0, b2.free 0, by simp, (below_new w _).alloc (by simp) _⟩

set_option maxHeartbeats 1000000 in
theorem take_no (A : Option Addr) (m c : Nat) (w : World)
    (HH : Calls Tryz.prog 100 #[.func (.func 101) #[] #[.pointer (some ⟨w.heap.size, 0, none⟩), .pointer (some ⟨w.heap.size + 1, 0, none⟩)]] ((w.alloc (.cells #[.slice A m c] 154)).alloc (.cells #[.int .i64 0] 3)) fun e w' => e = .returned (.bool false) ∧ Below w.heap.size ((w.alloc (.cells #[.slice A m c] 154)).alloc (.cells #[.int .i64 0] 3)) w') :
    Calls Tryz.prog 77 #[.slice A m c] w (TEndO w none) := by
  have hmf : ∀ (fn : Fn) (first cap : Array Value) (w : World), (Instr.makeFunc fn first cap).run Tryz.prog w = .ok (.func fn first cap) w := fun _ _ _ _ => rfl
  have HH := hid HH
  go_enter Tryz.func77, Tryz.ntmps77
  go_wp2_with (go_at_call 100; refine HH.out.mono ?_; rintro e w1 ⟨rfl, hb⟩)
  go_wp2
  refine bodyPost_ret (results_tmp3 rfl _ _ _) rfl ?_
  exact ⟨rfl, ((below_new w _).alloc (by simp) _).trans hb⟩

set_option maxHeartbeats 1000000 in
theorem take_yes (A : Option Addr) (m c n : Nat) (t : List UInt8) (ht : t.length ≤ 1000000) (w : World)
    (HH : Calls Tryz.prog 100 #[.func (.func 101) #[] #[.pointer (some ⟨w.heap.size, 0, none⟩), .pointer (some ⟨w.heap.size + 1, 0, none⟩)]] ((w.alloc (.cells #[.slice A m c] 154)).alloc (.cells #[.int .i64 0] 3)) fun e w' => e = .returned (.bool true) ∧ Below w.heap.size ((w.alloc (.cells #[.slice A m c] 154)).alloc (.cells #[.int .i64 0] 3)) w' ∧ St w' w.heap.size t ∧ w'.cell? ⟨w.heap.size + 1, 0, none⟩ = some (.int .i64 (n : Int))) :
    Calls Tryz.prog 77 #[.slice A m c] w (TEndO w (some (n, t))) := by
  have hmf : ∀ (fn : Fn) (first cap : Array Value) (w : World), (Instr.makeFunc fn first cap).run Tryz.prog w = .ok (.func fn first cap) w := fun _ _ _ _ => rfl
  obtain ⟨y, hy⟩ : ∃ y : Int, (n : Int) = y := ⟨_, rfl⟩
  rw [hy] at HH
  unfold TEndO
  simp only [hy]
  have HH : Hid (Calls Tryz.prog 100 #[.func (.func 101) #[] #[.pointer (some ⟨w.heap.size, 0, none⟩), .pointer (some ⟨w.heap.size + 1, 0, none⟩)]] ((w.alloc (.cells #[.slice A m c] 154)).alloc (.cells #[.int .i64 0] 3)) fun e w' => e = .returned (.bool true) ∧ ∃ A' c', TkS w y A' t.length c' w' ∧ Hid (HoldsA w A' t)) := by
    refine HH.mono ?_
    rintro e w' ⟨he, hb, ⟨⟨v, h1, A', c', rfl, h2, h3, h4⟩, h5, h6⟩, h7⟩
    have hB := ((below_new w (.cells #[.slice A m c] 154)).alloc (by simp) (.cells #[.int .i64 0] 3)).trans hb
    refine ⟨he, A', c', ⟨⟨hB, cell_lt h7⟩, h7, h1⟩, fun hl => ?_⟩
    obtain ⟨b, off, e1, e2, e3⟩ := h4 hl
    exact ⟨b, off, e1, fun i hi => by rw [← hB.cell (p := ⟨b, off + i, none⟩) e2]; exact e3 i hi⟩
  have HC : Hid (∀ (A' : Option Addr) (c' : Nat) (W : World), HoldsA w A' t → Below w.heap.size w W → Calls Tryz.prog 67 #[.slice A' t.length c'] W fun e w' => ∃ v, e = .returned v ∧ Row w' W.heap.size v t ∧ Below W.heap.size W w') := by
    intro A' c' W h hb
    refine clone_any A' c' t ht W fun hl => ?_
    obtain ⟨b, off, e1, e3⟩ := h hl
    exact ⟨b, off, e1, e3.below hb (e3.lt hl)⟩
  clear hy ht
  go_enter Tryz.func77, Tryz.ntmps77
  go_wp2_with (go_at_call 100; refine HH.out.mono ?_; rintro e w1 ⟨rfl, A', c', hS, hA⟩)
  have HN := hid hS
  obtain ⟨_, p0, p1⟩ := hS
  go_region_held3 (fun w' => Hid (Below w.heap.size w w' ∧ w.heap.size + 1 < w'.heap.size) ∧ w'.cell? ⟨w.heap.size + 1, 0, none⟩ = some (.int .i64 y) ∧ w'.cell? ⟨w.heap.size, 0, none⟩ = some (.slice A' t.length c'))
    (first | exact HN.out | exact tk_drew HN.out | exact tk_call (by assumption) hbo | exact tk_drew (by assumption) | assumption)
    ((go_at_call 67; ((with_reducible refine (HC.out _ _ _ hA.out ?_).mono ?_); (first | exact HN.out.1.out.1 | exact HN.out.1.out.1.drew); rintro e w5 ⟨v, rfl, hR, hbo⟩)))
  rename_i hHeld
  go_wp2
  refine bodyPost_ret (results_tmp3 rfl _ _ _) rfl ?_
  exact ⟨_, rfl, hR.le HN.1.out.1.size, hHeld.1.out.1⟩

theorem take_any (A : Option Addr) (c : Nat) (l : List UInt8) (hl : l.length ≤ 1000000) (hc : l.length ≤ c) (hc2 : c ≤ 9223372036854775807) (w : World) (h : HoldsA w A l) :
    Calls Tryz.prog 77 #[.slice A l.length c] w (TEndO w (tk l)) := by
  obtain ⟨h1, h2, h3, h4, h5, h6⟩ := two_cells w (.slice A l.length c) (.int .i64 0) 154 3
  have hS : St ((w.alloc (.cells #[.slice A l.length c] 154)).alloc (.cells #[.int .i64 0] 3)) w.heap.size l := by
    refine ⟨⟨_, h1, A, c, rfl, hc, hc2, fun h0 => ?_⟩, h3, by rw [h5]; omega⟩
    obtain ⟨b, off, e1, e2⟩ := h h0
    exact ⟨b, off, e1, e2.lt h0, e2.below h6 (e2.lt h0)⟩
  have H := takeclo_any w.heap.size l _ hS h2 h4
  cases hk : tk l with
  | none =>
    rw [hk] at H
    exact take_no A l.length c w ((holds_no w.heap.size _ hS.2.2 H).mono fun e w' ⟨he, hb⟩ => ⟨he, hb⟩)
  | some p =>
    obtain ⟨n, t⟩ := p
    rw [hk] at H
    obtain ⟨k, _, _, _, ht, _⟩ := tkGo_rest _ _ _ _ _ hk
    exact take_yes A l.length c n t (by rw [ht, List.length_drop]; omega) w (holds_yes w.heap.size t n _ H)
end Go.Proofs.YtofkfafdodhmdaaGreatDoor

/- sum.begun at any bytes: are they a beginning of a number; slices.ContainsFunc and IndexFunc with its closure; bytes.Equal. Conditions: the slices hold their bytes. -/
namespace Go.Proofs.YtofkfafdodhmdaaGreatDoor
open Go.RowKit

theorem begun1 (x : Int) (w : World) : Calls Tryz.prog 121 #[.int .u8 x] w fun e w' => e = .returned (.bool (decide (x < 128))) ∧ w = w' := by
  go_enter Tryz.func121, Tryz.ntmps121
  go_wp2
  go_ret
  exact ⟨rfl, rfl⟩

def allBig (l : List UInt8) : Bool := l.all fun x => decide (128 ≤ x.toNat)
theorem allBig_take {l : List UInt8} {k : Nat} (h : k < l.length) : allBig (l.take (k + 1)) = (allBig (l.take k) && decide (128 ≤ (l[k]).toNat)) := by
  unfold allBig
  rw [List.take_succ_eq_append_getElem h, List.all_append]
  simp
theorem allBig_no {l : List UInt8} {k : Nat} (h : k < l.length) (hx : (l[k]).toNat < 128) : allBig l = false := by
  unfold allBig
  rw [List.all_eq_false]
  exact ⟨l[k], List.getElem_mem h, by simp; omega⟩

set_option maxHeartbeats 1000000 in
theorem indexFunc_in (b off c : Nat) (l : List UInt8) (hl : l.length ≤ 9223372036854775807) (w : World) (h : Holds w b off l) :
    Calls Tryz.prog 146 #[.slice (some ⟨b, off, none⟩) l.length c, .func (.func 121) #[] #[]] w fun e w' => (∃ i : Int, e = .returned (.int .i64 i) ∧ Hid (decide (0 ≤ i) = !allBig l)) ∧ w' = w := by
  obtain ⟨m, hm⟩ : ∃ m, l.length = m := ⟨_, rfl⟩
  rw [hm]
  have HM := hid hm
  have hml : m ≤ 9223372036854775807 := by omega
  clear hm hl
  go_enter Tryz.func146, Tryz.ntmps146
  go_wp2
  go_loopw [8] (fun vi wr => ∃ k : Nat, k ≤ m ∧ vi = .int .i64 k ∧ Hid (allBig (l.take k) = true) ∧ wr = w) (fun vi _ => m - (intOf vi).toNat)
  case atStart => exact ⟨0, by omega, rfl, rfl, rfl⟩
  case round =>
    obtain ⟨k, hk, rfl, HA, rfl⟩ := hrel
    by_cases hlt : k < m
    · have hkl : k < l.length := by rw [HM.out]; exact hlt
      have hc := h k hkl
      rw [List.getD_eq_getElem?_getD, List.getElem?_eq_getElem hkl, Option.getD_some] at hc
      obtain ⟨x, hx⟩ : ∃ x : Int, (((l[k]).toNat : Nat) : Int) = x := ⟨_, rfl⟩
      rw [hx] at hc
      have HX := hid hx
      clear hx
      go_wp2_with (go_at_call 121; refine (begun1 x _).mono ?_; rintro e w2 ⟨rfl, rfl⟩)
      · rename_i hx128
        go_ret
        refine ⟨⟨_, rfl, ?_⟩, rfl⟩
        unfold Hid
        rw [allBig_no hkl (by have := HX.out; omega), decide_eq_true (by omega)]
        rfl
      · rename_i hx128
        go_roundw
        case rel =>
          refine ⟨k + 1, by omega, by go_num, ?_, trivial⟩
          unfold Hid
          rw [allBig_take hkl, HA.out, Bool.true_and, decide_eq_true_eq]
          have := HX.out
          omega
        case measure => simp [intOf]; omega
    · go_wp2
      go_ret
      refine ⟨⟨_, rfl, ?_⟩, rfl⟩
      unfold Hid
      have h1 := HA.out
      rw [List.take_of_length_le (by have := HM.out; omega)] at h1
      rw [h1]
      rfl

set_option maxHeartbeats 1000000 in
theorem indexFunc_nil (A : Option Addr) (c : Nat) (w : World) :
    Calls Tryz.prog 146 #[.slice A 0 c, .func (.func 121) #[] #[]] w fun e w' => (∃ i : Int, e = .returned (.int .i64 i) ∧ Hid (decide (0 ≤ i) = !allBig [])) ∧ w' = w := by
  go_enter Tryz.func146, Tryz.ntmps146
  go_wp2
  go_loopw [8] (fun vi wr => vi = .int .i64 0 ∧ wr = w) (fun _ _ => 0)
  case atStart => exact ⟨rfl, rfl⟩
  case round =>
    obtain ⟨rfl, rfl⟩ := hrel
    go_wp2
    go_ret
    exact ⟨⟨_, rfl, rfl⟩, rfl⟩

theorem indexFunc_any (A : Option Addr) (c : Nat) (l : List UInt8) (hl : l.length ≤ 9223372036854775807) (w : World) (h : HoldsA w A l) :
    Calls Tryz.prog 146 #[.slice A l.length c, .func (.func 121) #[] #[]] w fun e w' => (∃ i : Int, e = .returned (.int .i64 i) ∧ Hid (decide (0 ≤ i) = !allBig l)) ∧ w' = w := by
  by_cases h0 : 0 < l.length
  · obtain ⟨b, off, rfl, hh⟩ := h h0
    exact indexFunc_in b off c l hl w hh
  · have : l = [] := List.eq_nil_of_length_eq_zero (by omega)
    subst this
    exact indexFunc_nil A c w

set_option maxHeartbeats 1000000 in
theorem containsFunc_any (A : Option Addr) (c : Nat) (l : List UInt8) (hl : l.length ≤ 9223372036854775807) (w : World) (h : HoldsA w A l) :
    Calls Tryz.prog 120 #[.slice A l.length c, .func (.func 121) #[] #[]] w fun e w' => e = .returned (.bool (!allBig l)) ∧ w' = w := by
  have HI := hid (indexFunc_any A c l hl w h)
  clear hl h
  go_enter Tryz.func120, Tryz.ntmps120
  go_wp2_with (go_at_call 146; refine HI.out.mono ?_; rintro e w2 ⟨⟨i, rfl, hi⟩, rfl⟩)
  go_ret
  rw [hi.out]
  exact ⟨rfl, rfl⟩

theorem openB_eq (l : List UInt8) : openB l = (decide (l.length < 9) && allBig l) := by
  unfold openB allBig
  rw [show decide (l.length ≤ 8) = decide (l.length < 9) from decide_eq_decide.2 (by omega)]

set_option maxHeartbeats 1000000 in
theorem begun_any (A : Option Addr) (c : Nat) (l : List UInt8) (hl : l.length ≤ 9223372036854775807) (w : World) (h : HoldsA w A l) :
    Calls Tryz.prog 103 #[.slice A l.length c] w fun e w' => e = .returned (.bool (openB l)) ∧ w' = w := by
  have HI := hid (containsFunc_any A c l hl w h)
  have HE := hid (openB_eq l)
  obtain ⟨q, hq⟩ : ∃ q, allBig l = q := ⟨_, rfl⟩
  rw [hq] at HI HE
  obtain ⟨m, hm⟩ : ∃ m, l.length = m := ⟨_, rfl⟩
  rw [hm] at HI HE
  rw [hm]
  rw [hm] at hl
  clear h hq hm
  by_cases h9 : m < 9
  · go_enter Tryz.func103, Tryz.ntmps103
    go_wp2_with (go_at_call 120; refine HI.out.mono ?_; rintro e w2 ⟨rfl, rfl⟩)
    go_ret
    rw [HE.out, decide_eq_true h9]
    simp
  · go_enter Tryz.func103, Tryz.ntmps103
    go_wp2_with (go_at_call 120; refine HI.out.mono ?_; rintro e w2 ⟨rfl, rfl⟩)
    go_ret
    rw [HE.out, decide_eq_false h9]
    exact ⟨rfl, rfl⟩
end Go.Proofs.YtofkfafdodhmdaaGreatDoor

/- What stands in SLd, behind SC. Conditions: none. -/

/- Append of a slice whatever to a row of the call's own. Conditions: the slices hold their bytes, a million together at most. -/
namespace Go.Proofs.YtofkfafdodhmdaaGreatDoor
open Go.RowKit
/-- Nothing is appended. -/
theorem run_append_nothing (w : World) (B : Nat) (v : Value) (l : List UInt8) (h : Row w B v l) (c : Nat) : (Builtin.append_ #[25, 25] 25 #[v, .slice none 0 c]).run Tryz.prog w = .ok v w := by
  obtain ⟨i0, hi, hz0, hz1, hz2⟩ := info_parts info_u8
  obtain ⟨h1, h2⟩ := h
  rcases h2 with ⟨rfl, h0⟩ | ⟨g, cap, cur, rfl, hB, hh, hn, hm, hs, ht⟩
  · have h1 := run_underlying (P := Tryz.prog) Tryz.underlying25
    have hlen : (Builtin.lenOf (.slice none 0 c)).run Tryz.prog w = .ok 0 w := rfl
    simp [Builtin.append_, h1, sizeOf, typeInfo, hi, Builtin.firstCells, hlen]
  · have := run_append_room_src (P := Tryz.prog) (w := w) 25 25 25 5 i0 Tryz.underlying25 hi g 0 l.length cap (.slice none 0 c) 0 [] (Src.ofNil w Tryz.underlying25 c) (by omega) (fun j hj => absurd hj (by simp)) (fun j hj => absurd hj (by simp))
    rw [this]
    rfl

section
variable {ops : Array Oper} {rest : List Oper} {o : Oper} {a : Act} {Q : Exit → Act → World → Prop}
/-- append of a slice that holds some bytes, or none, to a row of the call's own. -/
theorem wpList_append_any (hgd : o.guard = Option.none) (s x : Operand)
    (ho : o.op = .call { callee := .builtin .append, args := #[s, x], argTypes := #[25, 25] }) (hty : o.type = 25)
    (w : World) (base : Nat) (v : Value) (l : List UInt8) (hs : a.eval s = v) (hown : Row w base v l)
    (A : Option Addr) (c : Nat) (news : List UInt8) (hx : a.eval x = .slice A news.length c) (hnews : HoldsA w A news)
    (hlen : l.length + news.length ≤ 1000000) (hbase : base ≤ w.heap.size)
    (h : ∀ v' w', Row w' base v' (l ++ news) → Below base w w' → wpList Tryz.prog ops Q rest (a.put o.dst v') w') : wpList Tryz.prog ops Q (o :: rest) a w := by
  match A, hx, hnews with
  | none, hx, hnews =>
    have h0 : news = [] := by
      cases news with
      | nil => rfl
      | cons y t => obtain ⟨b, off, e, _⟩ := hnews (by simp); cases e
    subst h0
    refine Lib.wpList_append_run w hgd s x 25 25 ho v _ hs hx v w ?_ (h v w (by rwa [List.append_nil]) (Below.refl _ _))
    rw [hty]
    exact run_append_nothing w base v l hown c
  | some ad, hx, hnews =>
    refine wpList_append_bytes hgd s x ho w base v l hs hown ad news.length c news rfl hx (fun j u hu => ?_) hlen hbase h
    have hj : j < news.length := by
      rcases Nat.lt_or_ge j news.length with h1 | h1
      · exact h1
      · rw [bc_at, List.getElem?_eq_none h1] at hu; cases hu
    obtain ⟨b, off, e, hh⟩ := hnews (by omega)
    cases e
    rw [add_zero_off, hh j hj, ← hu, bc_at, List.getElem?_eq_getElem hj, List.getD_eq_getElem?_getD, List.getElem?_eq_getElem hj]
    rfl
end

end Go.Proofs.YtofkfafdodhmdaaGreatDoor
