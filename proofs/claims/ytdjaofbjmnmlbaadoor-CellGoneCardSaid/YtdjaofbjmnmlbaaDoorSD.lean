/- The reader of package codec: a byte, some bytes, a number; each ends in what it reads or in the panic that tells of something else. Conditions: the slice that is read holds its bytes. -/
import Derived.Test.YtdjaofbjmnmlbaaDoorSC
import Derived.Defers
import Derived.Recover
namespace Go.Proofs.YtdjaofbjmnmlbaaDoor
open Go.RowKit

/-- The panic of a reader that meets something else. -/
abbrev otherP : Ending := .panicked [{ v := .iface 137 (.agg #[]), recovered := false }]

set_option maxHeartbeats 400000 in
theorem want_yes (rb : Nat) (w : World) : Calls Tryd.prog 116 #[.pointer (some ⟨rb, 0, none⟩), .bool true] w fun e w' => e = .returned (.tuple #[]) ∧ w = w' := by
  go_enter Tryd.func116, Tryd.ntmps116
  go_wp2
  go_end0
  exact ⟨rfl, rfl⟩

set_option maxHeartbeats 400000 in
theorem want_no (rb : Nat) (w : World) : Calls Tryd.prog 116 #[.pointer (some ⟨rb, 0, none⟩), .bool false] w fun e w' => e = otherP ∧ w = w' := by
  go_enter Tryd.func116, Tryd.ntmps116
  go_wp2
  refine ⟨rfl, ?_⟩
  exact ⟨rfl, rfl⟩

set_option maxHeartbeats 1000000 in
theorem some_in (rb b off m c k : Nat) (hk : k < c) (hm : k ≤ m) (_hmc : m ≤ c) (hc : c ≤ 9223372036854775807) (w : World) (h0 : w.cell? ⟨rb, 0, none⟩ = some (.slice (some ⟨b, off, none⟩) m c)) (hf : w.frozen? ⟨rb, 0, none⟩ = false) :
    Calls Tryd.prog 119 #[.pointer (some ⟨rb, 0, none⟩), .int .i64 k] w fun e w' => e = .returned (.slice (some ⟨b, off, none⟩) k c) ∧ w' = w.setCell ⟨rb, 0, none⟩ (.slice (some ⟨b, off + k, none⟩) (m - k) (c - k)) := by
  go_enter Tryd.func119, Tryd.ntmps119
  go_wp2_with (go_at_call 116; refine (want_yes _ _).mono ?_; rintro e w1 ⟨rfl, rfl⟩)
  go_ret
  exact ⟨rfl, rfl⟩

set_option maxHeartbeats 1000000 in
/-- All bytes up to the capacity: what is left is nothing, at the address where it was. -/
theorem some_all (rb b off k : Nat) (_hc : k ≤ 9223372036854775807) (w : World) (h0 : w.cell? ⟨rb, 0, none⟩ = some (.slice (some ⟨b, off, none⟩) k k)) (hf : w.frozen? ⟨rb, 0, none⟩ = false) :
    Calls Tryd.prog 119 #[.pointer (some ⟨rb, 0, none⟩), .int .i64 k] w fun e w' => e = .returned (.slice (some ⟨b, off, none⟩) k k) ∧ w' = w.setCell ⟨rb, 0, none⟩ (.slice (some ⟨b, off, none⟩) 0 0) := by
  go_enter Tryd.func119, Tryd.ntmps119
  go_wp2_with (go_at_call 116; refine (want_yes _ _).mono ?_; rintro e w1 ⟨rfl, rfl⟩)
  go_ret
  exact ⟨rfl, rfl⟩

set_option maxHeartbeats 1000000 in
theorem some_no (rb m c k : Nat) (A : Option Addr) (hk : m < k) (w : World) (h0 : w.cell? ⟨rb, 0, none⟩ = some (.slice A m c)) :
    Calls Tryd.prog 119 #[.pointer (some ⟨rb, 0, none⟩), .int .i64 k] w fun e w' => e = otherP ∧ w = w' := by
  have hk' : ¬ k ≤ m := by omega
  go_enter Tryd.func119, Tryd.ntmps119
  go_wp2_with (go_at_call 116; refine (want_no _ _).mono ?_; rintro e w1 ⟨rfl, rfl⟩)
  refine ⟨rfl, ?_⟩
  exact ⟨rfl, rfl⟩

/-- What is left of the slice behind k of its bytes. -/
def restV (b off m c k : Nat) : Value := if k < c then .slice (some ⟨b, off + k, none⟩) (m - k) (c - k) else .slice (some ⟨b, off, none⟩) 0 0

set_option maxHeartbeats 1000000 in
theorem one_yes (rb b off m c x : Nat) (hm : 1 ≤ m) (hmc : m ≤ c) (hc : c ≤ 9223372036854775807) (w : World) (h0 : w.cell? ⟨rb, 0, none⟩ = some (.slice (some ⟨b, off, none⟩) m c)) (hf : w.frozen? ⟨rb, 0, none⟩ = false) (hx : w.cell? ⟨b, off, none⟩ = some (.int .u8 (x : Int))) (hne : b ≠ rb) :
    Calls Tryd.prog 115 #[.pointer (some ⟨rb, 0, none⟩)] w fun e w' => e = .returned (.int .u8 (x : Int)) ∧ w' = w.setCell ⟨rb, 0, none⟩ (restV b off m c 1) := by
  have HS : Calls Tryd.prog 119 #[.pointer (some ⟨rb, 0, none⟩), .int .i64 1] w fun e w' => ∃ c', 1 ≤ c' ∧ e = .returned (.slice (some ⟨b, off, none⟩) 1 c') ∧ w' = w.setCell ⟨rb, 0, none⟩ (restV b off m c 1) := by
    by_cases h1 : 1 < c
    · refine (some_in rb b off m c 1 h1 hm hmc hc w h0 hf).mono fun e w' ⟨he, hw⟩ => ⟨c, by omega, he, ?_⟩
      unfold restV; rw [if_pos h1]; exact hw
    · obtain rfl : c = 1 := by omega
      obtain rfl : m = 1 := by omega
      refine (some_all rb b off 1 (by omega) w h0 hf).mono fun e w' ⟨he, hw⟩ => ⟨1, by omega, he, ?_⟩
      unfold restV; rw [if_neg h1]; exact hw
  have HX : (w.setCell ⟨rb, 0, none⟩ (restV b off m c 1)).cell? ⟨b, off, none⟩ = some (.int .u8 (x : Int)) := by
    rw [World.cell?_setCell_other _ _ _ _ (by intro e; exact hne (by simpa using (congrArg Addr.block e).symm))]; exact hx
  obtain ⟨W, hW⟩ : ∃ W, w.setCell ⟨rb, 0, none⟩ (restV b off m c 1) = W := ⟨_, rfl⟩
  rw [hW] at HS HX
  rw [hW]
  have HH := hid HS
  clear h0 hf hx hW HS
  go_enter Tryd.func115, Tryd.ntmps115
  go_wp2_with (go_at_call 119; refine HH.out.mono ?_; rintro e w1 ⟨c', hc', rfl, rfl⟩)
  go_ret
  exact ⟨rfl, rfl⟩

set_option maxHeartbeats 1000000 in
theorem one_no (rb c : Nat) (A : Option Addr) (w : World) (h0 : w.cell? ⟨rb, 0, none⟩ = some (.slice A 0 c)) :
    Calls Tryd.prog 115 #[.pointer (some ⟨rb, 0, none⟩)] w fun e w' => e = otherP ∧ w = w' := by
  go_enter Tryd.func115, Tryd.ntmps115
  go_wp2_with (go_at_call 119; refine (some_no rb 0 c 1 A (by decide) _ h0).mono ?_; rintro e w1 ⟨rfl, rfl⟩)
  refine ⟨rfl, ?_⟩
  exact ⟨rfl, rfl⟩

/-- What lay below B is as it was, but for block rb. -/
structure But (B rb : Nat) (w w' : World) : Prop where
  os : w'.os = w.os
  tape : w'.tape = w.tape
  output : w'.output = w.output
  size : w.heap.size ≤ w'.heap.size
  block : ∀ k, k < B → k ≠ rb → w'.heap[k]? = w.heap[k]?
section
variable {B rb : Nat} {w w1 w' : World}
theorem But.refl (B rb : Nat) (w : World) : But B rb w w := ⟨rfl, rfl, rfl, Nat.le_refl _, fun _ _ _ => rfl⟩
theorem But.trans (h : But B rb w w1) (k : But B rb w1 w') : But B rb w w' := ⟨k.os.trans h.os, k.tape.trans h.tape, k.output.trans h.output, Nat.le_trans h.size k.size, fun j hj hr => (k.block j hj hr).trans (h.block j hj hr)⟩
theorem But.mono {B' : Nat} (h : But B rb w w') (hb : B' ≤ B) : But B' rb w w' := ⟨h.os, h.tape, h.output, h.size, fun j hj => h.block j (Nat.lt_of_lt_of_le hj hb)⟩
theorem But.setCell (h : But B rb w w1) (o : Nat) (v : Value) : But B rb w (w1.setCell ⟨rb, o, none⟩ v) :=
  ⟨h.os, h.tape, h.output, by simpa using h.size, fun j hj hr => (Below.heap_setCell _ _ _ _ hr).trans (h.block j hj hr)⟩
theorem But.of_below (h : Below B w w') (rb : Nat) : But B rb w w' := ⟨h.os, h.tape, h.output, h.size, fun j hj _ => h.block j hj⟩
theorem But.below (h : But B rb w w') (hb : B ≤ rb) : Below B w w' := ⟨h.os, h.tape, h.output, h.size, fun j hj => h.block j hj (by omega)⟩
theorem But.cell (h : But B rb w w') {k : Nat} (hk : k < B) (hr : k ≠ rb) (o : Nat) : w'.cell? ⟨k, o, none⟩ = w.cell? ⟨k, o, none⟩ := World.cell?_of_block (w := w) (h.block k hk hr)
theorem But.frozen (h : But B rb w w') {k : Nat} (hk : k < B) (hr : k ≠ rb) (o : Nat) : w'.frozen? ⟨k, o, none⟩ = w.frozen? ⟨k, o, none⟩ := World.frozen?_of_block (w := w) (h.block k hk hr)
end

/-- A reader in block rb: the bytes l are left. -/
def Rd (w : World) (rb : Nat) (v : Value) (l : List UInt8) : Prop :=
  ∃ A c, v = .slice A l.length c ∧ l.length ≤ c ∧ c ≤ 9223372036854775807 ∧ (0 < l.length → ∃ b off, A = some ⟨b, off, none⟩ ∧ b < rb ∧ Holds w b off l)
def St (w : World) (rb : Nat) (l : List UInt8) : Prop := (∃ v, w.cell? ⟨rb, 0, none⟩ = some v ∧ Rd w rb v l) ∧ w.frozen? ⟨rb, 0, none⟩ = false ∧ rb < w.heap.size
theorem Rd.below {w w' : World} {rb : Nat} {v : Value} {l : List UInt8} (h : Rd w rb v l) (hb : Below rb w w') : Rd w' rb v l := by
  obtain ⟨A, c, h1, h2, h3, h4⟩ := h
  refine ⟨A, c, h1, h2, h3, fun hl => ?_⟩
  obtain ⟨b, off, h5, h6, h8⟩ := h4 hl
  exact ⟨b, off, h5, h6, h8.below hb h6⟩
theorem But.low {rb : Nat} {w w' : World} (h : But w.heap.size rb w w') (hlt : rb < w.heap.size) : Below rb w w' := (h.mono (Nat.le_of_lt hlt)).below (Nat.le_refl _)
/-- What leaves the reader's block alone, and all below it, leaves the reader as it was. -/
theorem St.keep {w w' : World} {rb : Nat} {l : List UInt8} (h : St w rb l) (hb : Below (rb + 1) w w') : St w' rb l := by
  obtain ⟨⟨v, h1, h2⟩, h3, h4⟩ := h
  exact ⟨⟨v, (hb.cell (p := ⟨rb, 0, none⟩) (by simp)).trans h1, h2.below (hb.mono (by omega))⟩, (hb.frozen (p := ⟨rb, 0, none⟩) (by simp)).trans h3, Nat.lt_of_lt_of_le h4 hb.size⟩
theorem cell_set_rb {w : World} {rb : Nat} {v0 : Value} (h : w.cell? ⟨rb, 0, none⟩ = some v0) (v : Value) : (w.setCell ⟨rb, 0, none⟩ v).cell? ⟨rb, 0, none⟩ = some v :=
  World.cell?_setCell_same' _ _ _ (by rw [h]; rfl)
theorem rd_rest {w : World} {rb b off c k : Nat} {l : List UInt8} (hk : k ≤ l.length) (hc : l.length ≤ c) (hc2 : c ≤ 9223372036854775807) (hb : b < rb) (hh : Holds w b off l) : Rd w rb (restV b off l.length c k) (l.drop k) := by
  unfold restV
  by_cases h1 : k < c
  · rw [if_pos h1]
    exact ⟨_, c - k, by rw [List.length_drop], by rw [List.length_drop]; omega, by omega, fun _ => ⟨b, off + k, rfl, hb, hh.drop k⟩⟩
  · rw [if_neg h1]
    have : l.drop k = [] := List.drop_eq_nil_of_le (by omega)
    rw [this]
    exact ⟨_, 0, rfl, by simp, by omega, fun h => absurd h (by simp)⟩

def OneEnd (w : World) (rb : Nat) : List UInt8 → Ending → World → Prop
  | [], e, w' => But w.heap.size rb w w' ∧ e = otherP
  | x :: t, e, w' => But w.heap.size rb w w' ∧ e = .returned (.int .u8 (x.toNat : Int)) ∧ St w' rb t
theorem one_any (rb : Nat) (l : List UInt8) (w : World) (h : St w rb l) :
    Calls Tryd.prog 115 #[.pointer (some ⟨rb, 0, none⟩)] w (OneEnd w rb l) := by
  obtain ⟨⟨v, h0, A, c, rfl, h2, h3, h4⟩, hf, hlt⟩ := h
  match l, h2, h4, h0 with
  | [], h2, h4, h0 =>
    exact (one_no rb c A w h0).mono fun e w' ⟨he, hw⟩ => ⟨by subst hw; exact But.refl _ _ _, he⟩
  | x :: t, h2, h4, h0 =>
    obtain ⟨b, off, rfl, hb, hh⟩ := h4 (by simp)
    have hx := hh 0 (by simp)
    refine (one_yes rb b off (x :: t).length c x.toNat (by simp) h2 h3 w h0 hf (by simpa using hx) (by omega)).mono fun e w' ⟨he, hw⟩ => ?_
    have hB : But w.heap.size rb w w' := by rw [hw]; exact (But.refl _ _ _).setCell _ _
    refine ⟨hB, he, ⟨_, by rw [hw]; exact cell_set_rb h0 _, ?_⟩, ?_, ?_⟩
    · have := rd_rest (w := w) (rb := rb) (k := 1) (l := x :: t) (by simp) h2 h3 hb hh
      exact this.below (hB.low hlt)
    · rw [hw, World.frozen?_setCell]; exact hf
    · exact Nat.lt_of_lt_of_le hlt hB.size
end Go.Proofs.YtdjaofbjmnmlbaaDoor
