/- val.parse at texts that begin with b or t, and val.Read there. Conditions: texts of at most a thousand bytes; the listed variables of the library read as they are laid. -/
import Derived.Test.YtadehoibjpmhhaaGreatDoorVKb
namespace Go.Proofs.YtadehoibjpmhhaaGreatDoor
open Go.RowKit

theorem hasPrefix_one (c d : UInt8) (r : List UInt8) : Lib.hasPrefix (c :: r) [d] = (d == c) := by
  unfold Lib.hasPrefix
  simp [List.isPrefixOf]
theorem tail_list (s : ByteArray) : (s.extract 1 s.size).data.toList = s.data.toList.drop 1 := Lib.ext_list s 1

/-- What parse asks of a text that begins with c. -/
structure Begins (s : ByteArray) (c : UInt8) : Prop where
  head : ∃ r, s.data.toList = c :: r
  nt : (s.toList == [116, 114, 117, 101]) = false
  nf : (s.toList == [102, 97, 108, 115, 101]) = false

theorem hp_any (s : ByteArray) (c d : UInt8) (hb : Begins s c) (w : World) :
    Calls Tryz.prog 42 #[.string s, .string ⟨#[d]⟩] w fun e w' => e = .returned (.bool (d == c)) ∧ w = w' := by
  obtain ⟨r, hr⟩ := hb.head
  have h := Tryz.strings_HasPrefix s ⟨#[d]⟩ w
  have e : Lib.hasPrefix s.data.toList (⟨#[d]⟩ : ByteArray).data.toList = (d == c) := by rw [hr]; exact hasPrefix_one c d r
  rw [e] at h
  exact h.mono fun _ _ ⟨he, hw⟩ => ⟨he, hw.symm⟩

set_option maxHeartbeats 1000000 in
theorem parse_t (s : ByteArray) (hs : s.size ≤ 1000) (h1 : 1 ≤ s.size) (hb : Begins s 116) (S : ByteArray) (ok : Bool) (w : World) (HU : Hid (∀ W : World, Calls Tryz.prog 44 #[.string (s.extract 1 s.size)] W fun e w' => e = .returned (.tuple #[.string S, .bool ok]) ∧ Below W.heap.size W w')) :
    Calls Tryz.prog 18 #[.string s] w fun e w' => e = .returned (.tuple #[.agg #[.int .i64 3, .int .i64 0, .string S], .bool ok]) ∧ Below w.heap.size w w' := by
  have HB := hid (below2 w)
  have HP1 : Hid (∀ W, Calls Tryz.prog 42 #[.string s, .string ⟨#[102]⟩] W fun e w' => e = .returned (.bool false) ∧ W = w') := fun W => hp_any s 116 102 hb W
  have HP2 : Hid (∀ W, Calls Tryz.prog 42 #[.string s, .string ⟨#[98]⟩] W fun e w' => e = .returned (.bool false) ∧ W = w') := fun W => hp_any s 116 98 hb W
  have HP3 : Hid (∀ W, Calls Tryz.prog 42 #[.string s, .string ⟨#[116]⟩] W fun e w' => e = .returned (.bool true) ∧ W = w') := fun W => hp_any s 116 116 hb W
  have nt := hb.nt
  have nf := hb.nf
  clear hb
  go_enter Tryz.func18, Tryz.ntmps18
  go_wp2_with (first | (go_at_call 42; ((with_reducible refine (HP1.out _).mono ?_); rintro e w' ⟨rfl, rfl⟩)) | (go_at_call 42; ((with_reducible refine (HP2.out _).mono ?_); rintro e w' ⟨rfl, rfl⟩)) | (go_at_call 42; ((with_reducible refine (HP3.out _).mono ?_); rintro e w' ⟨rfl, rfl⟩)) | (go_at_call 44; refine (HU.out _).mono ?_; rintro e w1 ⟨rfl, hb1⟩; obtain ⟨hc, hf⟩ := bcell hb1; have hz : w.heap.size + 1 < w1.heap.size := (by have := hb1.size; simp at this; omega); have g0 := hc w.heap.size 0 (by simp; omega); have g1 := hc w.heap.size 1 (by simp; omega); have g2 := hc w.heap.size 2 (by simp; omega)))
  simp at g0 g1 g2
  refine bodyPost_ret (v := .tuple #[.agg #[.int .i64 3, .int .i64 0, .string S], .bool ok]) (by simp [results, Tryz.results18, go_sem, cell_set_same, g0, g1, g2]) rfl ⟨rfl, ?_⟩
  exact ((((((HB.out _ _).trans (hb1.mono (by simp; omega))).setCell (by simp) _).setCell (by simp) _).setCell (by simp) _).setCell (by simp) _)

set_option maxHeartbeats 1000000 in
theorem parse_b (s : ByteArray) (hs : s.size ≤ 1000) (h1 : 1 ≤ s.size) (hb : Begins s 98) (S : ByteArray) (ok : Bool) (w : World) (HU : Hid (∀ W : World, Calls Tryz.prog 44 #[.string (s.extract 1 s.size)] W fun e w' => e = .returned (.tuple #[.string S, .bool ok]) ∧ Below W.heap.size W w')) :
    Calls Tryz.prog 18 #[.string s] w fun e w' => e = .returned (.tuple #[.agg #[.int .i64 2, .int .i64 0, .string S], .bool ok]) ∧ Below w.heap.size w w' := by
  have HB := hid (below2 w)
  have HP1 : Hid (∀ W, Calls Tryz.prog 42 #[.string s, .string ⟨#[102]⟩] W fun e w' => e = .returned (.bool false) ∧ W = w') := fun W => hp_any s 98 102 hb W
  have HP2 : Hid (∀ W, Calls Tryz.prog 42 #[.string s, .string ⟨#[98]⟩] W fun e w' => e = .returned (.bool true) ∧ W = w') := fun W => hp_any s 98 98 hb W
  have nt := hb.nt
  have nf := hb.nf
  clear hb
  go_enter Tryz.func18, Tryz.ntmps18
  go_wp2_with (first | (go_at_call 42; ((with_reducible refine (HP1.out _).mono ?_); rintro e w' ⟨rfl, rfl⟩)) | (go_at_call 42; ((with_reducible refine (HP2.out _).mono ?_); rintro e w' ⟨rfl, rfl⟩)) | (go_at_call 44; refine (HU.out _).mono ?_; rintro e w1 ⟨rfl, hb1⟩; obtain ⟨hc, hf⟩ := bcell hb1; have hz : w.heap.size + 1 < w1.heap.size := (by have := hb1.size; simp at this; omega); have g0 := hc w.heap.size 0 (by simp; omega); have g1 := hc w.heap.size 1 (by simp; omega); have g2 := hc w.heap.size 2 (by simp; omega)))
  simp at g0 g1 g2
  refine bodyPost_ret (v := .tuple #[.agg #[.int .i64 2, .int .i64 0, .string S], .bool ok]) (by simp [results, Tryz.results18, go_sem, cell_set_same, g0, g1, g2]) rfl ⟨rfl, ?_⟩
  exact ((((((HB.out _ _).trans (hb1.mono (by simp; omega))).setCell (by simp) _).setCell (by simp) _).setCell (by simp) _).setCell (by simp) _)

set_option maxHeartbeats 1000000 in
theorem vread_f (s : ByteArray) (k n : Int) (S : ByteArray) (w : World) (HP : Hid (∀ W, Below w.heap.size w W → Calls Tryz.prog 18 #[.string s] W fun e w' => e = .returned (.tuple #[.agg #[.int .i64 k, .int .i64 n, .string S], .bool false]) ∧ Below w.heap.size w w' ∧ Below W.heap.size W w')) :
    Calls Tryz.prog 7 #[.string s] w fun e w' => e = .returned (.tuple #[.agg #[.int .i64 0, .int .i64 0, .string ⟨#[]⟩], .bool false]) ∧ Below w.heap.size w w' := by
  have HB := hid (below_new w)
  go_enter Tryz.func7, Tryz.ntmps7
  go_wp2_with (go_at_call 18; refine (HP.out _ (HB.out _)).mono ?_; rintro e w1 ⟨rfl, hbw1, hb1⟩; obtain ⟨hc, hf⟩ := bcell hb1; have hz : w.heap.size < w1.heap.size := (by have := hb1.size; simp at this; omega); have g0 := hc w.heap.size 0 (by simp); have g1 := hc w.heap.size 1 (by simp); have g2 := hc w.heap.size 2 (by simp))
  simp at g0 g1 g2
  refine bodyPost_ret (v := .tuple #[.agg #[.int .i64 0, .int .i64 0, .string ⟨#[]⟩], .bool false]) (by simp [results, Tryz.results7, go_sem, cell_set_same, g0, g1, g2, hz]) rfl ⟨rfl, ?_⟩
  repeat (first | exact hbw1 | (refine Below.setCell ?_ (by simp) _) | (refine Below.alloc ?_ (by simp <;> omega) _))

set_option maxHeartbeats 1000000 in
theorem vread_tf (s : ByteArray) (k n : Int) (S : ByteArray) (T : ByteArray) (h1 : (T.toList == s.toList) = false) (w : World) (HP : Hid (∀ W, Below w.heap.size w W → Calls Tryz.prog 18 #[.string s] W fun e w' => e = .returned (.tuple #[.agg #[.int .i64 k, .int .i64 n, .string S], .bool true]) ∧ Below w.heap.size w w' ∧ Below W.heap.size W w')) (HS : Hid (∀ W, Below w.heap.size w W → Calls Tryz.prog 11 #[.agg #[.int .i64 k, .int .i64 n, .string S]] W fun e w' => e = .returned (.string T) ∧ Below w.heap.size w w' ∧ Below W.heap.size W w')) :
    Calls Tryz.prog 7 #[.string s] w fun e w' => e = .returned (.tuple #[.agg #[.int .i64 0, .int .i64 0, .string ⟨#[]⟩], .bool false]) ∧ Below w.heap.size w w' := by
  have HB := hid (below_new w)
  go_enter Tryz.func7, Tryz.ntmps7
  go_wp2_with (first | (go_at_call 18; refine (HP.out _ (HB.out _)).mono ?_; rintro e w1 ⟨rfl, hbw1, hb1⟩; obtain ⟨hc, hf⟩ := bcell hb1; have hz : w.heap.size < w1.heap.size := (by have := hb1.size; simp at this; omega); have g0 := hc w.heap.size 0 (by simp); have g1 := hc w.heap.size 1 (by simp); have g2 := hc w.heap.size 2 (by simp); simp at g0 g1 g2) | (go_at_call 11; (with_reducible refine (HS.out _ (hbw1.alloc (Nat.le_of_lt hz) _)).mono ?_); rintro e w2 ⟨rfl, hbw2, hb2⟩; have q0 : w2.cell? ⟨w.heap.size, 0, none⟩ = some (.int .i64 0) := ((hb2.cell (p := ⟨w.heap.size, 0, none⟩) (by simp <;> omega)).trans ((World.cell?_alloc_past _ _ _ hz).trans g0)); have q1 : w2.cell? ⟨w.heap.size, 1, none⟩ = some (.int .i64 0) := ((hb2.cell (p := ⟨w.heap.size, 1, none⟩) (by simp <;> omega)).trans ((World.cell?_alloc_past _ _ _ hz).trans g1)); have q2 : w2.cell? ⟨w.heap.size, 2, none⟩ = some (.string ⟨#[]⟩) := ((hb2.cell (p := ⟨w.heap.size, 2, none⟩) (by simp <;> omega)).trans ((World.cell?_alloc_past _ _ _ hz).trans g2)); have u0 : w2.cell? ⟨w1.heap.size, 0, none⟩ = some (.int .i64 k) := ((hb2.cell (p := ⟨w1.heap.size, 0, none⟩) (by simp)).trans (by rw [World.cell?_alloc_at _ _ _ _ rfl]; rfl)); have u1 : w2.cell? ⟨w1.heap.size, 1, none⟩ = some (.int .i64 n) := ((hb2.cell (p := ⟨w1.heap.size, 1, none⟩) (by simp)).trans (by rw [World.cell?_alloc_at _ _ _ _ rfl]; rfl)); have u2 : w2.cell? ⟨w1.heap.size, 2, none⟩ = some (.string S) := ((hb2.cell (p := ⟨w1.heap.size, 2, none⟩) (by simp)).trans (by rw [World.cell?_alloc_at _ _ _ _ rfl]; rfl)); have x0 : ∀ j, w2.frozen? ⟨w.heap.size, j, none⟩ = false := (fun j => (hb2.frozen (p := ⟨w.heap.size, j, none⟩) (by simp <;> omega)).trans ((World.frozen?_alloc_past _ _ _ hz).trans ((hb1.frozen (p := ⟨w.heap.size, j, none⟩) (by simp)).trans (World.frozen?_alloc_at _ _ _ _ rfl))))))
  refine bodyPost_ret (v := .tuple #[.agg #[.int .i64 0, .int .i64 0, .string ⟨#[]⟩], .bool false]) (by simp [results, Tryz.results7, go_sem, cell_set_same, q0, q1, q2]) rfl ⟨rfl, ?_⟩
  exact ((hbw2.setCell (by simp) _).setCell (by simp) _).setCell (by simp) _

set_option maxHeartbeats 1000000 in
theorem vread_tt (s : ByteArray) (k n : Int) (S : ByteArray) (T : ByteArray) (h1 : (T.toList == s.toList) = true) (w : World) (HP : Hid (∀ W, Below w.heap.size w W → Calls Tryz.prog 18 #[.string s] W fun e w' => e = .returned (.tuple #[.agg #[.int .i64 k, .int .i64 n, .string S], .bool true]) ∧ Below w.heap.size w w' ∧ Below W.heap.size W w')) (HS : Hid (∀ W, Below w.heap.size w W → Calls Tryz.prog 11 #[.agg #[.int .i64 k, .int .i64 n, .string S]] W fun e w' => e = .returned (.string T) ∧ Below w.heap.size w w' ∧ Below W.heap.size W w')) :
    Calls Tryz.prog 7 #[.string s] w fun e w' => e = .returned (.tuple #[.agg #[.int .i64 k, .int .i64 n, .string S], .bool true]) ∧ Below w.heap.size w w' := by
  have HB := hid (below_new w)
  go_enter Tryz.func7, Tryz.ntmps7
  go_wp2_with (first | (go_at_call 18; refine (HP.out _ (HB.out _)).mono ?_; rintro e w1 ⟨rfl, hbw1, hb1⟩; obtain ⟨hc, hf⟩ := bcell hb1; have hz : w.heap.size < w1.heap.size := (by have := hb1.size; simp at this; omega); have g0 := hc w.heap.size 0 (by simp); have g1 := hc w.heap.size 1 (by simp); have g2 := hc w.heap.size 2 (by simp); simp at g0 g1 g2) | (go_at_call 11; (with_reducible refine (HS.out _ (hbw1.alloc (Nat.le_of_lt hz) _)).mono ?_); rintro e w2 ⟨rfl, hbw2, hb2⟩; have q0 : w2.cell? ⟨w.heap.size, 0, none⟩ = some (.int .i64 0) := ((hb2.cell (p := ⟨w.heap.size, 0, none⟩) (by simp <;> omega)).trans ((World.cell?_alloc_past _ _ _ hz).trans g0)); have q1 : w2.cell? ⟨w.heap.size, 1, none⟩ = some (.int .i64 0) := ((hb2.cell (p := ⟨w.heap.size, 1, none⟩) (by simp <;> omega)).trans ((World.cell?_alloc_past _ _ _ hz).trans g1)); have q2 : w2.cell? ⟨w.heap.size, 2, none⟩ = some (.string ⟨#[]⟩) := ((hb2.cell (p := ⟨w.heap.size, 2, none⟩) (by simp <;> omega)).trans ((World.cell?_alloc_past _ _ _ hz).trans g2)); have u0 : w2.cell? ⟨w1.heap.size, 0, none⟩ = some (.int .i64 k) := ((hb2.cell (p := ⟨w1.heap.size, 0, none⟩) (by simp)).trans (by rw [World.cell?_alloc_at _ _ _ _ rfl]; rfl)); have u1 : w2.cell? ⟨w1.heap.size, 1, none⟩ = some (.int .i64 n) := ((hb2.cell (p := ⟨w1.heap.size, 1, none⟩) (by simp)).trans (by rw [World.cell?_alloc_at _ _ _ _ rfl]; rfl)); have u2 : w2.cell? ⟨w1.heap.size, 2, none⟩ = some (.string S) := ((hb2.cell (p := ⟨w1.heap.size, 2, none⟩) (by simp)).trans (by rw [World.cell?_alloc_at _ _ _ _ rfl]; rfl)); have x0 : ∀ j, w2.frozen? ⟨w.heap.size, j, none⟩ = false := (fun j => (hb2.frozen (p := ⟨w.heap.size, j, none⟩) (by simp <;> omega)).trans ((World.frozen?_alloc_past _ _ _ hz).trans ((hb1.frozen (p := ⟨w.heap.size, j, none⟩) (by simp)).trans (World.frozen?_alloc_at _ _ _ _ rfl))))))
  refine bodyPost_ret (v := .tuple #[.agg #[.int .i64 k, .int .i64 n, .string S], .bool true]) (by simp [results, Tryz.results7, go_sem, cell_set_same, q0, q1, q2]) rfl ⟨rfl, ?_⟩
  exact ((hbw2.setCell (by simp) _).setCell (by simp) _).setCell (by simp) _

end Go.Proofs.YtadehoibjpmhhaaGreatDoor
