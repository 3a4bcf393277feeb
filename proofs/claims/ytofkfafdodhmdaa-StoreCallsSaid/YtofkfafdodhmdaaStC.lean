/- store.New, right, Size, Room, Read. Conditions: the disk stands; names no longer than any are. -/
import Derived.Test.YtofkfafdodhmdaaStB
import Derived.Test.YtofkfafdodhmdaaSFa
namespace Go.Proofs.Ytofkfafdodhmdaa
open Go.RowKit

def rightB (s : ByteArray) : Bool := decide (1 ≤ s.size) && decide (s.size ≤ 16)

set_option maxHeartbeats 1000000 in
theorem right_ok (s : ByteArray) (hs : s.size ≤ maxLen) (w : World) : Calls Try.prog 45 #[.string s] w fun e w' => e = .returned (.bool (rightB s)) ∧ Below w.heap.size w w' := by
  unfold maxLen at hs
  by_cases h1 : 1 ≤ s.size
  · by_cases h2 : s.size ≤ 16
    · have HR : Hid (rightB s = true) := by unfold Hid rightB; rw [decide_eq_true h1, decide_eq_true h2]; rfl
      have g1 : decide ((1 : Int) ≤ (s.size : Int)) = true := decide_eq_true (by omega)
      have g2 : decide ((s.size : Int) ≤ 16) = true := decide_eq_true (by omega)
      go_enter Try.func45, Try.ntmps45
      go_wp2
      go_ret
      exact ⟨by rw [HR.out]; rfl, Below.refl _ _⟩
    · have HR : Hid (rightB s = false) := by unfold Hid rightB; rw [decide_eq_false h2, Bool.and_false]
      have g1 : decide ((1 : Int) ≤ (s.size : Int)) = true := decide_eq_true (by omega)
      have g2 : decide ((s.size : Int) ≤ 16) = false := decide_eq_false (by omega)
      go_enter Try.func45, Try.ntmps45
      go_wp2
      go_ret
      exact ⟨by rw [HR.out]; rfl, Below.refl _ _⟩
  · have HR : Hid (rightB s = false) := by unfold Hid rightB; rw [decide_eq_false h1, Bool.false_and]
    have g1 : decide ((1 : Int) ≤ (s.size : Int)) = false := decide_eq_false (by omega)
    go_enter Try.func45, Try.ntmps45
    go_wp2
    go_ret
    exact ⟨by rw [HR.out]; rfl, Below.refl _ _⟩

set_option maxHeartbeats 1000000 in
theorem new_no (z : Int) (hz : z < 0 ∨ 16777216 < z) (w : World) : Calls Try.prog 9 #[.int .i64 z] w fun e w' => e = .returned (.tuple #[.pointer none, .int .i64 11]) ∧ Below w.heap.size w w' := by
  by_cases h1 : z < 0
  · clear hz
    go_enter Try.func9, Try.ntmps9
    go_wp2
    go_ret2
    exact ⟨rfl, Below.refl _ _⟩
  · have h2 : 16777216 < z := by omega
    clear hz
    go_enter Try.func9, Try.ntmps9
    go_wp2
    go_ret2
    exact ⟨rfl, Below.refl _ _⟩

set_option maxHeartbeats 1000000 in
theorem new_yes (z : Int) (h0 : 0 ≤ z) (h1 : z ≤ 16777216) (w : World) : Calls Try.prog 9 #[.int .i64 z] w fun e w' => e = .returned (.tuple #[.pointer (some ⟨w.heap.size + 1, 0, none⟩), .int .i64 0]) ∧ DkAt w' w.heap.size (w.heap.size + 1) w.heap.size [] z 0 ∧ Below w.heap.size w w' := by
  have g1 : ¬ z < 0 := by omega
  have g2 : ¬ 16777216 < z := by omega
  have hmm := @run_makeMap Try.prog
  clear h0 h1
  go_enter Try.func9, Try.ntmps9
  go_wp2
  go_ret2
  have k := World.ownsMap_made (H := Unit) w Try.prog 9 Rp
  have e1 : (w.alloc (.map #[] 0)).heap.size = w.heap.size + 1 := World.size_alloc _ _
  have k2 := Blk.new (w.alloc (.map #[] 0)) 59 #[.map (some w.heap.size), .int .i64 z, .int .i64 0, .int .i64 0]
  rw [e1] at k2
  exact ⟨by simp, ⟨⟨by omega, Nat.le_refl _⟩, k2, k.alloc _, (fun f hf => by cases hf), List.Pairwise.nil, List.Pairwise.nil⟩, (below_new w _).trans ((below_new _ _).mono (by rw [e1]; omega))⟩

set_option maxHeartbeats 1000000 in
theorem size_ok {B db mb : Nat} {fs : List Fl} {z u : Int} {w : World} (h : DkAt w B db mb fs z u) : Calls Try.prog 22 #[.pointer (some ⟨db, 0, none⟩)] w fun e w' => e = .returned (.int .i64 (sizeF fs : Int)) ∧ Below w.heap.size w w' := by
  have m2 : w.cell? ⟨db, 2, none⟩ = some (.int .i64 (sizeF fs : Int)) := h.blk.cell 2
  clear h
  go_enter Try.func22, Try.ntmps22
  go_wp2
  go_ret
  exact ⟨rfl, Below.refl _ _⟩

set_option maxHeartbeats 1000000 in
theorem room_ok {B db mb : Nat} {fs : List Fl} {z u : Int} {w : World} (h : DkAt w B db mb fs z u) (hz : 0 ≤ z ∧ z ≤ 16777216) (hs : (sizeF fs : Int) ≤ z) : Calls Try.prog 24 #[.pointer (some ⟨db, 0, none⟩)] w fun e w' => e = .returned (.int .i64 (z - (sizeF fs : Int))) ∧ Below w.heap.size w w' := by
  have m1 : w.cell? ⟨db, 1, none⟩ = some (.int .i64 z) := h.blk.cell 1
  have m2 : w.cell? ⟨db, 2, none⟩ = some (.int .i64 (sizeF fs : Int)) := h.blk.cell 2
  generalize sizeF fs = s at *
  have hw : IntKind.i64.wrap (z - (s : Int)) = z - (s : Int) := by rw [IntKind.wrap_i64]; omega
  clear h
  go_enter Try.func24, Try.ntmps24
  go_wp2
  go_region
  all_goals
    go_wp2
    go_ret
    exact ⟨ret_val (int_val (by first | exact hw | rfl)), by repeat (first | exact Below.refl _ _ | refine Go.below_drewN ?_ _ | refine Below.drew ?_)⟩

set_option maxHeartbeats 1000000 in
theorem read_none {B db mb : Nat} {fs : List Fl} {z u : Int} {w : World} (h : DkAt w B db mb fs z u) (x : ByteArray) (hx : ∀ g ∈ fs, g.n ≠ x) (hs : x.size ≤ maxLen) : Calls Try.prog 26 #[.pointer (some ⟨db, 0, none⟩), .string x] w fun e w' => e = .returned (.tuple #[.slice none 0 0, .bool false]) ∧ Below w.heap.size w w' := by
  have m0 : w.cell? ⟨db, 0, none⟩ = some (.map (some mb)) := h.blk.cell 0
  have hl := flook_none h.map hx hs
  clear h
  go_enter Try.func26, Try.ntmps26
  go_wp2
  go_ret2
  exact ⟨rfl, Below.refl _ _⟩

set_option maxHeartbeats 1000000 in
theorem read_some {B db mb : Nat} {A C : List Fl} {f : Fl} {z u : Int} {w : World} (h : DkAt w B db mb (A ++ f :: C) z u) (hs : f.n.size ≤ maxLen) (hd : f.d.length ≤ 1000000) : Calls Try.prog 26 #[.pointer (some ⟨db, 0, none⟩), .string f.n] w fun e w' => ∃ v, e = .returned (.tuple #[v, .bool true]) ∧ Row w' w.heap.size v f.d ∧ Below w.heap.size w w' := by
  have m0 : w.cell? ⟨db, 0, none⟩ = some (.map (some mb)) := h.blk.cell 0
  have hl := look_some h.map h.ri hs
  have hF := h.fl f (by simp)
  have m1 : w.cell? ⟨f.b, 0, none⟩ = some f.dv := hF.blk.cell 0
  obtain ⟨A1, c1, e1, _, _, hh, _⟩ := hF.row.sla
  rw [e1] at m1
  have HC := hid (clone_any A1 c1 f.d hd w hh)
  clear h hF hh
  go_enter Try.func26, Try.ntmps26
  go_wp2_with (go_at_call 42; refine HC.out.mono ?_; rintro e w1 ⟨v, rfl, hr, hb⟩)
  go_ret2
  exact ⟨v, rfl, hr, hb⟩
end Go.Proofs.Ytofkfafdodhmdaa
