/- val.parse at the other texts: true, false, what begins with f, and what is read as a number. Conditions: texts of at most a thousand bytes; the listed variables of the library read as they are laid. -/
import Derived.Test.YtadehoibjpmhhaaGreatDoorVN
namespace Go.Proofs.YtadehoibjpmhhaaGreatDoor
open Go.RowKit

set_option maxHeartbeats 1000000 in
theorem parse_true (s : ByteArray) (h : (s.toList == [116, 114, 117, 101]) = true) (w : World) :
    Calls Tryz.prog 18 #[.string s] w fun e w' => e = .returned (.tuple #[.agg #[.int .i64 4, .int .i64 1, .string ⟨#[]⟩], .bool true]) ∧ Below w.heap.size w w' := by
  have HB := hid (below2 w)
  go_enter Tryz.func18, Tryz.ntmps18
  go_wp2
  refine bodyPost_ret (v := .tuple #[.agg #[.int .i64 4, .int .i64 1, .string ⟨#[]⟩], .bool true]) (by simp [results, Tryz.results18, go_sem]) rfl ⟨rfl, ?_⟩
  repeat (first | exact HB.out _ _ | refine Below.setCell ?_ (by simp) _)

set_option maxHeartbeats 1000000 in
theorem parse_false (s : ByteArray) (h1 : (s.toList == [116, 114, 117, 101]) = false) (h : (s.toList == [102, 97, 108, 115, 101]) = true) (w : World) :
    Calls Tryz.prog 18 #[.string s] w fun e w' => e = .returned (.tuple #[.agg #[.int .i64 4, .int .i64 0, .string ⟨#[]⟩], .bool true]) ∧ Below w.heap.size w w' := by
  have HB := hid (below2 w)
  go_enter Tryz.func18, Tryz.ntmps18
  go_wp2
  refine bodyPost_ret (v := .tuple #[.agg #[.int .i64 4, .int .i64 0, .string ⟨#[]⟩], .bool true]) (by simp [results, Tryz.results18, go_sem]) rfl ⟨rfl, ?_⟩
  repeat (first | exact HB.out _ _ | refine Below.setCell ?_ (by simp) _)

set_option maxHeartbeats 1000000 in
theorem parse_f (s : ByteArray) (hs : s.size ≤ 1000) (h1 : 1 ≤ s.size) (hb : Begins s 102) (n : Int) (ok : Bool) (w : World) (HU : Hid (∀ W : World, Below w.heap.size w W → Calls Tryz.prog 43 #[.string (s.extract 1 s.size)] W fun e w' => e = .returned (.tuple #[.int .i64 n, .bool ok]) ∧ Below W.heap.size W w')) :
    Calls Tryz.prog 18 #[.string s] w fun e w' => e = .returned (.tuple #[.agg #[.int .i64 5, .int .i64 n, .string ⟨#[]⟩], .bool ok]) ∧ Below w.heap.size w w' := by
  have HB := hid (below2 w)
  have HP1 : Hid (∀ W, Calls Tryz.prog 42 #[.string s, .string ⟨#[102]⟩] W fun e w' => e = .returned (.bool true) ∧ W = w') := fun W => hp_any s 102 102 hb W
  have nt := hb.nt
  have nf := hb.nf
  clear hb
  go_enter Tryz.func18, Tryz.ntmps18
  go_wp2_with (first | (go_at_call 42; ((with_reducible refine (HP1.out _).mono ?_); rintro e w' ⟨rfl, rfl⟩)) | (go_at_call 43; refine (HU.out _ (HB.out _ _)).mono ?_; rintro e w1 ⟨rfl, hb1⟩; obtain ⟨hc, hf⟩ := bcell hb1; have hz : w.heap.size + 1 < w1.heap.size := (by have := hb1.size; simp at this; omega); have g0 := hc w.heap.size 0 (by simp; omega); have g1 := hc w.heap.size 1 (by simp; omega); have g2 := hc w.heap.size 2 (by simp; omega)))
  simp at g0 g1 g2
  refine bodyPost_ret (v := .tuple #[.agg #[.int .i64 5, .int .i64 n, .string ⟨#[]⟩], .bool ok]) (by simp [results, Tryz.results18, go_sem, cell_set_same, g0, g1, g2]) rfl ⟨rfl, ?_⟩
  exact ((((((HB.out _ _).trans (hb1.mono (by simp; omega))).setCell (by simp) _).setCell (by simp) _).setCell (by simp) _).setCell (by simp) _)

set_option maxHeartbeats 1000000 in
theorem parse_d_ok (s : ByteArray) (nt : (s.toList == [116, 114, 117, 101]) = false) (nf : (s.toList == [102, 97, 108, 115, 101]) = false) (hp : ∀ d : UInt8, d = 102 ∨ d = 98 ∨ d = 116 → Lib.hasPrefix s.data.toList [d] = false) (n : Int) (w : World) (HU : Hid (∀ W : World, Below w.heap.size w W → Calls Tryz.prog 45 #[.string s, .int .i64 10, .int .i64 64] W fun e w' => e = .returned (.tuple #[.int .i64 n, .nilIface]) ∧ Below W.heap.size W w')) :
    Calls Tryz.prog 18 #[.string s] w fun e w' => e = .returned (.tuple #[.agg #[.int .i64 1, .int .i64 n, .string ⟨#[]⟩], .bool true]) ∧ Below w.heap.size w w' := by
  have HB := hid (below2 w)
  have HP1 : Hid (∀ W, Calls Tryz.prog 42 #[.string s, .string ⟨#[102]⟩] W fun e w' => e = .returned (.bool false) ∧ W = w') := fun W => (Tryz.strings_HasPrefix s ⟨#[102]⟩ W).mono fun _ _ ⟨he, hw⟩ => ⟨he.trans (ret_bool (hp 102 (by simp))), hw.symm⟩
  have HP2 : Hid (∀ W, Calls Tryz.prog 42 #[.string s, .string ⟨#[98]⟩] W fun e w' => e = .returned (.bool false) ∧ W = w') := fun W => (Tryz.strings_HasPrefix s ⟨#[98]⟩ W).mono fun _ _ ⟨he, hw⟩ => ⟨he.trans (ret_bool (hp 98 (by simp))), hw.symm⟩
  have HP3 : Hid (∀ W, Calls Tryz.prog 42 #[.string s, .string ⟨#[116]⟩] W fun e w' => e = .returned (.bool false) ∧ W = w') := fun W => (Tryz.strings_HasPrefix s ⟨#[116]⟩ W).mono fun _ _ ⟨he, hw⟩ => ⟨he.trans (ret_bool (hp 116 (by simp))), hw.symm⟩
  clear hp
  go_enter Tryz.func18, Tryz.ntmps18
  go_wp2_with (first | (go_at_call 42; ((with_reducible refine (HP1.out _).mono ?_); rintro e w' ⟨rfl, rfl⟩)) | (go_at_call 42; ((with_reducible refine (HP2.out _).mono ?_); rintro e w' ⟨rfl, rfl⟩)) | (go_at_call 42; ((with_reducible refine (HP3.out _).mono ?_); rintro e w' ⟨rfl, rfl⟩)) | (go_at_call 45; refine (HU.out _ (HB.out _ _)).mono ?_; rintro e w1 ⟨rfl, hb1⟩; obtain ⟨hc, hf⟩ := bcell hb1; have hz : w.heap.size + 1 < w1.heap.size := (by have := hb1.size; simp at this; omega); have g0 := hc w.heap.size 0 (by simp; omega); have g1 := hc w.heap.size 1 (by simp; omega); have g2 := hc w.heap.size 2 (by simp; omega)))
  simp at g0 g1 g2
  refine bodyPost_ret (v := .tuple #[.agg #[.int .i64 1, .int .i64 n, .string ⟨#[]⟩], .bool true]) (by simp [results, Tryz.results18, go_sem, cell_set_same, g0, g1, g2]) rfl ⟨rfl, ?_⟩
  iterate 6 (refine Below.setCell ?_ (by simp) _)
  exact (HB.out _ _).trans (hb1.mono (by simp; omega))

set_option maxHeartbeats 1000000 in
theorem parse_d_bad (s : ByteArray) (nt : (s.toList == [116, 114, 117, 101]) = false) (nf : (s.toList == [102, 97, 108, 115, 101]) = false) (hp : ∀ d : UInt8, d = 102 ∨ d = 98 ∨ d = 116 → Lib.hasPrefix s.data.toList [d] = false) (n : Int) (w : World) (HU : Hid (∀ W : World, Below w.heap.size w W → Calls Tryz.prog 45 #[.string s, .int .i64 10, .int .i64 64] W fun e w' => (∃ N : Nat, e = .returned (.tuple #[.int .i64 n, .iface 103 (.pointer (some ⟨N, 0, none⟩))])) ∧ Below W.heap.size W w')) :
    Calls Tryz.prog 18 #[.string s] w fun e w' => e = .returned (.tuple #[.agg #[.int .i64 1, .int .i64 n, .string ⟨#[]⟩], .bool false]) ∧ Below w.heap.size w w' := by
  have HB := hid (below2 w)
  have HP1 : Hid (∀ W, Calls Tryz.prog 42 #[.string s, .string ⟨#[102]⟩] W fun e w' => e = .returned (.bool false) ∧ W = w') := fun W => (Tryz.strings_HasPrefix s ⟨#[102]⟩ W).mono fun _ _ ⟨he, hw⟩ => ⟨he.trans (ret_bool (hp 102 (by simp))), hw.symm⟩
  have HP2 : Hid (∀ W, Calls Tryz.prog 42 #[.string s, .string ⟨#[98]⟩] W fun e w' => e = .returned (.bool false) ∧ W = w') := fun W => (Tryz.strings_HasPrefix s ⟨#[98]⟩ W).mono fun _ _ ⟨he, hw⟩ => ⟨he.trans (ret_bool (hp 98 (by simp))), hw.symm⟩
  have HP3 : Hid (∀ W, Calls Tryz.prog 42 #[.string s, .string ⟨#[116]⟩] W fun e w' => e = .returned (.bool false) ∧ W = w') := fun W => (Tryz.strings_HasPrefix s ⟨#[116]⟩ W).mono fun _ _ ⟨he, hw⟩ => ⟨he.trans (ret_bool (hp 116 (by simp))), hw.symm⟩
  clear hp
  go_enter Tryz.func18, Tryz.ntmps18
  go_wp2_with (first | (go_at_call 42; ((with_reducible refine (HP1.out _).mono ?_); rintro e w' ⟨rfl, rfl⟩)) | (go_at_call 42; ((with_reducible refine (HP2.out _).mono ?_); rintro e w' ⟨rfl, rfl⟩)) | (go_at_call 42; ((with_reducible refine (HP3.out _).mono ?_); rintro e w' ⟨rfl, rfl⟩)) | (go_at_call 45; refine (HU.out _ (HB.out _ _)).mono ?_; rintro e w1 ⟨⟨N, rfl⟩, hb1⟩; obtain ⟨hc, hf⟩ := bcell hb1; have hz : w.heap.size + 1 < w1.heap.size := (by have := hb1.size; simp at this; omega); have g0 := hc w.heap.size 0 (by simp; omega); have g1 := hc w.heap.size 1 (by simp; omega); have g2 := hc w.heap.size 2 (by simp; omega)))
  simp at g0 g1 g2
  refine bodyPost_ret (v := .tuple #[.agg #[.int .i64 1, .int .i64 n, .string ⟨#[]⟩], .bool false]) (by simp [results, Tryz.results18, go_sem, cell_set_same, g0, g1, g2]) rfl ⟨rfl, ?_⟩
  iterate 6 (refine Below.setCell ?_ (by simp) _)
  exact (HB.out _ _).trans (hb1.mono (by simp; omega))

end Go.Proofs.YtadehoibjpmhhaaGreatDoor
