/- The document's Read, kind by kind: "", true, false and what begins with f. Conditions: as each theorem names them. -/
import Derived.Test.YtadehoibjpmhhaaGreatDoorRQ
namespace Go.Proofs.YtadehoibjpmhhaaGreatDoor
open Go.RowKit

theorem rread_empty (w : World) : Calls Tryz.prog 8 #[.string ⟨#[]⟩] w fun e w' => e = .returned (.tuple #[.agg #[.int .i64 0, .int .i64 0, .string ⟨#[]⟩], .bool false]) ∧ Below w.heap.size w w' := by
  have HB := hid (below_new w)
  go_enter Tryz.func8, Tryz.ntmps8
  go_wp2
  refine bodyPost_ret (v := .tuple #[.agg #[.int .i64 0, .int .i64 0, .string ⟨#[]⟩], .bool false]) (by simp [results, Tryz.results8, go_sem]) rfl ⟨rfl, ?_⟩
  repeat (first | exact HB.out _ | refine Below.setCell ?_ (by simp) _)

set_option maxHeartbeats 4000000 in
theorem rread_true (T : ByteArray) (hq : (T.toList == [116, 114, 117, 101]) = true) (w : World) (HS : Hid (∀ W, Below w.heap.size w W → Calls Tryz.prog 21 #[.agg #[.int .i64 4, .int .i64 1, .string ⟨#[]⟩]] W fun e w' => e = .returned (.string T) ∧ Below W.heap.size W w')) :
    Calls Tryz.prog 8 #[.string ⟨#[116, 114, 117, 101]⟩] w fun e w' => e = .returned (.tuple #[.agg #[.int .i64 4, .int .i64 1, .string ⟨#[]⟩], .bool true]) ∧ Below w.heap.size w w' := by
  have HB := hid (below2 w)
  go_enter Tryz.func8, Tryz.ntmps8
  go_upto_region 35 with (fail)
  refine wp_letter (fun W => Hid (Below w.heap.size w W ∧ w.heap.size + 1 < W.heap.size) ∧ (∀ j, W.frozen? ⟨w.heap.size, j, none⟩ = false) ∧ W.cell? ⟨w.heap.size, 0, none⟩ = some (.int .i64 0) ∧ W.cell? ⟨w.heap.size, 1, none⟩ = some (.int .i64 0) ∧ W.cell? ⟨w.heap.size, 2, none⟩ = some (.string ⟨#[]⟩) ∧ W.cell? ⟨w.heap.size + 1, 0, none⟩ = some (.int .i64 4) ∧ W.cell? ⟨w.heap.size + 1, 1, none⟩ = some (.int .i64 1) ∧ W.cell? ⟨w.heap.size + 1, 2, none⟩ = some (.string ⟨#[]⟩)) ?_ (fun W hW => ?_)
  · exact ⟨hid ⟨HB.out _ _, by simp⟩, fun j => by simp, by simp, by simp, by simp, by simp, by simp, by simp⟩
  obtain ⟨hh, f0, a0, a1, a2, b0, b1, b2⟩ := hW
  obtain ⟨hbW, hzW⟩ := hh.out
  clear hh
  go_wp2_with (go_at_call 21; refine (HS.out _ hbW).mono ?_; rintro e w2 ⟨rfl, hb2⟩; obtain ⟨hc2, hf2⟩ := bcell hb2; have p0 := hc2 w.heap.size 0 (by omega); have p1 := hc2 w.heap.size 1 (by omega); have p2 := hc2 w.heap.size 2 (by omega); have r0 := hc2 (w.heap.size + 1) 0 (by omega); have r1 := hc2 (w.heap.size + 1) 1 (by omega); have r2 := hc2 (w.heap.size + 1) 2 (by omega); have p3 : ∀ j, w2.frozen? ⟨w.heap.size, j, none⟩ = false := (fun j => (hf2 w.heap.size j (by omega)).trans (f0 j)); rw [a0] at p0; rw [a1] at p1; rw [a2] at p2; rw [b0] at r0; rw [b1] at r1; rw [b2] at r2)
  refine bodyPost_ret (v := .tuple #[.agg #[.int .i64 4, .int .i64 1, .string ⟨#[]⟩], .bool true]) (by simp [results, Tryz.results8, go_sem, cell_set_same, p0, p1, p2]) rfl ⟨rfl, ?_⟩
  iterate 3 (refine Below.setCell ?_ (by simp) _)
  exact hbW.trans (hb2.mono hbW.size)

set_option maxHeartbeats 4000000 in
theorem rread_false (T : ByteArray) (hq : (T.toList == [102, 97, 108, 115, 101]) = true) (w : World) (HS : Hid (∀ W, Below w.heap.size w W → Calls Tryz.prog 21 #[.agg #[.int .i64 4, .int .i64 0, .string ⟨#[]⟩]] W fun e w' => e = .returned (.string T) ∧ Below W.heap.size W w')) :
    Calls Tryz.prog 8 #[.string ⟨#[102, 97, 108, 115, 101]⟩] w fun e w' => e = .returned (.tuple #[.agg #[.int .i64 4, .int .i64 0, .string ⟨#[]⟩], .bool true]) ∧ Below w.heap.size w w' := by
  have HB := hid (below2 w)
  go_enter Tryz.func8, Tryz.ntmps8
  go_upto_region 35 with (fail)
  refine wp_letter (fun W => Hid (Below w.heap.size w W ∧ w.heap.size + 1 < W.heap.size) ∧ (∀ j, W.frozen? ⟨w.heap.size, j, none⟩ = false) ∧ W.cell? ⟨w.heap.size, 0, none⟩ = some (.int .i64 0) ∧ W.cell? ⟨w.heap.size, 1, none⟩ = some (.int .i64 0) ∧ W.cell? ⟨w.heap.size, 2, none⟩ = some (.string ⟨#[]⟩) ∧ W.cell? ⟨w.heap.size + 1, 0, none⟩ = some (.int .i64 4) ∧ W.cell? ⟨w.heap.size + 1, 1, none⟩ = some (.int .i64 0) ∧ W.cell? ⟨w.heap.size + 1, 2, none⟩ = some (.string ⟨#[]⟩)) ?_ (fun W hW => ?_)
  · exact ⟨hid ⟨HB.out _ _, by simp⟩, fun j => by simp, by simp, by simp, by simp, by simp, by simp, by simp⟩
  obtain ⟨hh, f0, a0, a1, a2, b0, b1, b2⟩ := hW
  obtain ⟨hbW, hzW⟩ := hh.out
  clear hh
  go_wp2_with (go_at_call 21; refine (HS.out _ hbW).mono ?_; rintro e w2 ⟨rfl, hb2⟩; obtain ⟨hc2, hf2⟩ := bcell hb2; have p0 := hc2 w.heap.size 0 (by omega); have p1 := hc2 w.heap.size 1 (by omega); have p2 := hc2 w.heap.size 2 (by omega); have r0 := hc2 (w.heap.size + 1) 0 (by omega); have r1 := hc2 (w.heap.size + 1) 1 (by omega); have r2 := hc2 (w.heap.size + 1) 2 (by omega); have p3 : ∀ j, w2.frozen? ⟨w.heap.size, j, none⟩ = false := (fun j => (hf2 w.heap.size j (by omega)).trans (f0 j)); rw [a0] at p0; rw [a1] at p1; rw [a2] at p2; rw [b0] at r0; rw [b1] at r1; rw [b2] at r2)
  refine bodyPost_ret (v := .tuple #[.agg #[.int .i64 4, .int .i64 0, .string ⟨#[]⟩], .bool true]) (by simp [results, Tryz.results8, go_sem, cell_set_same, p0, p1, p2]) rfl ⟨rfl, ?_⟩
  iterate 3 (refine Below.setCell ?_ (by simp) _)
  exact hbW.trans (hb2.mono hbW.size)

set_option maxHeartbeats 4000000 in
theorem rread_fy (s : ByteArray) (hsz : 1 ≤ s.size) (hsm : s.size ≤ 1000) (hne : (s.toList == []) = false) (nt : (s.toList == [116, 114, 117, 101]) = false) (nf : (s.toList == [102, 97, 108, 115, 101]) = false) (h0 : (s[0]'(by omega)).toNat = 102) (n : Int) (HU : ∀ w : World, Hid (∀ W : World, Below w.heap.size w W → Calls Tryz.prog 19 #[.string (s.extract 1 s.size)] W fun e w' => e = .returned (.tuple #[.int .i64 n, .bool true]) ∧ Below W.heap.size W w')) (T : ByteArray) (hq : (T.toList == s.toList) = true) (w : World) (HS : Hid (∀ W, Below w.heap.size w W → Calls Tryz.prog 21 #[.agg #[.int .i64 5, .int .i64 n, .string ⟨#[]⟩]] W fun e w' => e = .returned (.string T) ∧ Below W.heap.size W w')) :
    Calls Tryz.prog 8 #[.string s] w fun e w' => e = .returned (.tuple #[.agg #[.int .i64 5, .int .i64 n, .string ⟨#[]⟩], .bool true]) ∧ Below w.heap.size w w' := by
  have HB := hid (below2 w)
  have HU := HU w
  go_enter Tryz.func8, Tryz.ntmps8
  go_upto_region 35 with (go_at_call 19; refine (HU.out _ (HB.out _ _)).mono ?_; rintro e w1 ⟨rfl, hb1⟩; have hc3 := (bcell hb1).1 (w.heap.size + 1) 0 (by simp); have hc4 := (bcell hb1).1 (w.heap.size + 1) 1 (by simp); simp at hc3 hc4; have hf5 : ∀ j, w1.frozen? ⟨w.heap.size + 1, j, none⟩ = false := (fun j => ((bcell hb1).2 (w.heap.size + 1) j (by simp)).trans (by simp)))
  refine wp_letter (fun W => Hid (Below w.heap.size w W ∧ w.heap.size + 1 < W.heap.size) ∧ (∀ j, W.frozen? ⟨w.heap.size, j, none⟩ = false) ∧ W.cell? ⟨w.heap.size, 0, none⟩ = some (.int .i64 0) ∧ W.cell? ⟨w.heap.size, 1, none⟩ = some (.int .i64 0) ∧ W.cell? ⟨w.heap.size, 2, none⟩ = some (.string ⟨#[]⟩) ∧ W.cell? ⟨w.heap.size + 1, 0, none⟩ = some (.int .i64 5) ∧ W.cell? ⟨w.heap.size + 1, 1, none⟩ = some (.int .i64 n) ∧ W.cell? ⟨w.heap.size + 1, 2, none⟩ = some (.string ⟨#[]⟩)) ?_ (fun W hW => ?_)
  · have hz : w.heap.size + 1 < w1.heap.size := by have := hb1.size; simp at this; omega
    obtain ⟨hc1, hf1⟩ := bcell hb1
    have g0 := hc1 w.heap.size 0 (by simp; omega)
    have g1 := hc1 w.heap.size 1 (by simp; omega)
    have g2 := hc1 w.heap.size 2 (by simp; omega)
    have g3 := hc1 (w.heap.size + 1) 0 (by simp)
    have g4 := hc1 (w.heap.size + 1) 1 (by simp)
    have g5 := hc1 (w.heap.size + 1) 2 (by simp)
    have g6 : ∀ j, w1.frozen? ⟨w.heap.size, j, none⟩ = false := fun j => (hf1 w.heap.size j (by simp; omega)).trans (by simp)
    simp at g0 g1 g2 g3 g4 g5
    refine ⟨hid ⟨(((HB.out _ _).trans (hb1.mono (by simp; omega))).setCell (by simp) _).setCell (by simp) _, ?_⟩, fun j => ?_, ?_, ?_, ?_, ?_, ?_, ?_⟩
    · simp; omega
    · simp [g6]
    · exact (World.cell?_setCell_other _ _ _ _ (addr_ne (by omega))).trans ((World.cell?_setCell_other _ _ _ _ (addr_ne (by omega))).trans g0)
    · exact (World.cell?_setCell_other _ _ _ _ (addr_ne (by omega))).trans ((World.cell?_setCell_other _ _ _ _ (addr_ne (by omega))).trans g1)
    · exact (World.cell?_setCell_other _ _ _ _ (addr_ne (by omega))).trans ((World.cell?_setCell_other _ _ _ _ (addr_ne (by omega))).trans g2)
    · exact (World.cell?_setCell_other _ _ _ _ (by simp)).trans (World.cell?_setCell_same _ _ _ g3)
    · exact World.cell?_setCell_same _ _ _ ((World.cell?_setCell_other _ _ _ _ (by simp)).trans g4)
    · exact (World.cell?_setCell_other _ _ _ _ (by simp)).trans ((World.cell?_setCell_other _ _ _ _ (by simp)).trans g5)
  obtain ⟨hh, f0, a0, a1, a2, b0, b1, b2⟩ := hW
  obtain ⟨hbW, hzW⟩ := hh.out
  clear hh
  go_wp2_with (go_at_call 21; refine (HS.out _ hbW).mono ?_; rintro e w2 ⟨rfl, hb2⟩; obtain ⟨hc2, hf2⟩ := bcell hb2; have p0 := hc2 w.heap.size 0 (by omega); have p1 := hc2 w.heap.size 1 (by omega); have p2 := hc2 w.heap.size 2 (by omega); have r0 := hc2 (w.heap.size + 1) 0 (by omega); have r1 := hc2 (w.heap.size + 1) 1 (by omega); have r2 := hc2 (w.heap.size + 1) 2 (by omega); have p3 : ∀ j, w2.frozen? ⟨w.heap.size, j, none⟩ = false := (fun j => (hf2 w.heap.size j (by omega)).trans (f0 j)); rw [a0] at p0; rw [a1] at p1; rw [a2] at p2; rw [b0] at r0; rw [b1] at r1; rw [b2] at r2)
  refine bodyPost_ret (v := .tuple #[.agg #[.int .i64 5, .int .i64 n, .string ⟨#[]⟩], .bool true]) (by simp [results, Tryz.results8, go_sem, cell_set_same, p0, p1, p2]) rfl ⟨rfl, ?_⟩
  iterate 3 (refine Below.setCell ?_ (by simp) _)
  exact hbW.trans (hb2.mono hbW.size)

set_option maxHeartbeats 4000000 in
theorem rread_fn (s : ByteArray) (hsz : 1 ≤ s.size) (hsm : s.size ≤ 1000) (hne : (s.toList == []) = false) (nt : (s.toList == [116, 114, 117, 101]) = false) (nf : (s.toList == [102, 97, 108, 115, 101]) = false) (h0 : (s[0]'(by omega)).toNat = 102) (n : Int) (HU : ∀ w : World, Hid (∀ W : World, Below w.heap.size w W → Calls Tryz.prog 19 #[.string (s.extract 1 s.size)] W fun e w' => e = .returned (.tuple #[.int .i64 n, .bool true]) ∧ Below W.heap.size W w')) (T : ByteArray) (hq : (T.toList == s.toList) = false) (w : World) (HS : Hid (∀ W, Below w.heap.size w W → Calls Tryz.prog 21 #[.agg #[.int .i64 5, .int .i64 n, .string ⟨#[]⟩]] W fun e w' => e = .returned (.string T) ∧ Below W.heap.size W w')) :
    Calls Tryz.prog 8 #[.string s] w fun e w' => e = .returned (.tuple #[.agg #[.int .i64 0, .int .i64 0, .string ⟨#[]⟩], .bool false]) ∧ Below w.heap.size w w' := by
  have HB := hid (below2 w)
  have HU := HU w
  go_enter Tryz.func8, Tryz.ntmps8
  go_upto_region 35 with (go_at_call 19; refine (HU.out _ (HB.out _ _)).mono ?_; rintro e w1 ⟨rfl, hb1⟩; have hc3 := (bcell hb1).1 (w.heap.size + 1) 0 (by simp); have hc4 := (bcell hb1).1 (w.heap.size + 1) 1 (by simp); simp at hc3 hc4; have hf5 : ∀ j, w1.frozen? ⟨w.heap.size + 1, j, none⟩ = false := (fun j => ((bcell hb1).2 (w.heap.size + 1) j (by simp)).trans (by simp)))
  refine wp_letter (fun W => Hid (Below w.heap.size w W ∧ w.heap.size + 1 < W.heap.size) ∧ (∀ j, W.frozen? ⟨w.heap.size, j, none⟩ = false) ∧ W.cell? ⟨w.heap.size, 0, none⟩ = some (.int .i64 0) ∧ W.cell? ⟨w.heap.size, 1, none⟩ = some (.int .i64 0) ∧ W.cell? ⟨w.heap.size, 2, none⟩ = some (.string ⟨#[]⟩) ∧ W.cell? ⟨w.heap.size + 1, 0, none⟩ = some (.int .i64 5) ∧ W.cell? ⟨w.heap.size + 1, 1, none⟩ = some (.int .i64 n) ∧ W.cell? ⟨w.heap.size + 1, 2, none⟩ = some (.string ⟨#[]⟩)) ?_ (fun W hW => ?_)
  · have hz : w.heap.size + 1 < w1.heap.size := by have := hb1.size; simp at this; omega
    obtain ⟨hc1, hf1⟩ := bcell hb1
    have g0 := hc1 w.heap.size 0 (by simp; omega)
    have g1 := hc1 w.heap.size 1 (by simp; omega)
    have g2 := hc1 w.heap.size 2 (by simp; omega)
    have g3 := hc1 (w.heap.size + 1) 0 (by simp)
    have g4 := hc1 (w.heap.size + 1) 1 (by simp)
    have g5 := hc1 (w.heap.size + 1) 2 (by simp)
    have g6 : ∀ j, w1.frozen? ⟨w.heap.size, j, none⟩ = false := fun j => (hf1 w.heap.size j (by simp; omega)).trans (by simp)
    simp at g0 g1 g2 g3 g4 g5
    refine ⟨hid ⟨(((HB.out _ _).trans (hb1.mono (by simp; omega))).setCell (by simp) _).setCell (by simp) _, ?_⟩, fun j => ?_, ?_, ?_, ?_, ?_, ?_, ?_⟩
    · simp; omega
    · simp [g6]
    · exact (World.cell?_setCell_other _ _ _ _ (addr_ne (by omega))).trans ((World.cell?_setCell_other _ _ _ _ (addr_ne (by omega))).trans g0)
    · exact (World.cell?_setCell_other _ _ _ _ (addr_ne (by omega))).trans ((World.cell?_setCell_other _ _ _ _ (addr_ne (by omega))).trans g1)
    · exact (World.cell?_setCell_other _ _ _ _ (addr_ne (by omega))).trans ((World.cell?_setCell_other _ _ _ _ (addr_ne (by omega))).trans g2)
    · exact (World.cell?_setCell_other _ _ _ _ (by simp)).trans (World.cell?_setCell_same _ _ _ g3)
    · exact World.cell?_setCell_same _ _ _ ((World.cell?_setCell_other _ _ _ _ (by simp)).trans g4)
    · exact (World.cell?_setCell_other _ _ _ _ (by simp)).trans ((World.cell?_setCell_other _ _ _ _ (by simp)).trans g5)
  obtain ⟨hh, f0, a0, a1, a2, b0, b1, b2⟩ := hW
  obtain ⟨hbW, hzW⟩ := hh.out
  clear hh
  go_wp2_with (go_at_call 21; refine (HS.out _ hbW).mono ?_; rintro e w2 ⟨rfl, hb2⟩; obtain ⟨hc2, hf2⟩ := bcell hb2; have p0 := hc2 w.heap.size 0 (by omega); have p1 := hc2 w.heap.size 1 (by omega); have p2 := hc2 w.heap.size 2 (by omega); have r0 := hc2 (w.heap.size + 1) 0 (by omega); have r1 := hc2 (w.heap.size + 1) 1 (by omega); have r2 := hc2 (w.heap.size + 1) 2 (by omega); have p3 : ∀ j, w2.frozen? ⟨w.heap.size, j, none⟩ = false := (fun j => (hf2 w.heap.size j (by omega)).trans (f0 j)); rw [a0] at p0; rw [a1] at p1; rw [a2] at p2; rw [b0] at r0; rw [b1] at r1; rw [b2] at r2)
  refine bodyPost_ret (v := .tuple #[.agg #[.int .i64 0, .int .i64 0, .string ⟨#[]⟩], .bool false]) (by simp [results, Tryz.results8, go_sem, cell_set_same, p0, p1, p2]) rfl ⟨rfl, ?_⟩
  iterate 3 (refine Below.setCell ?_ (by simp) _)
  exact hbW.trans (hb2.mono hbW.size)

set_option maxHeartbeats 4000000 in
theorem rread_fbad (s : ByteArray) (hsz : 1 ≤ s.size) (hsm : s.size ≤ 1000) (hne : (s.toList == []) = false) (nt : (s.toList == [116, 114, 117, 101]) = false) (nf : (s.toList == [102, 97, 108, 115, 101]) = false) (h0 : (s[0]'(by omega)).toNat = 102) (n : Int) (HU : ∀ w : World, Hid (∀ W : World, Below w.heap.size w W → Calls Tryz.prog 19 #[.string (s.extract 1 s.size)] W fun e w' => e = .returned (.tuple #[.int .i64 n, .bool false]) ∧ Below W.heap.size W w')) (w : World) :
    Calls Tryz.prog 8 #[.string s] w fun e w' => e = .returned (.tuple #[.agg #[.int .i64 0, .int .i64 0, .string ⟨#[]⟩], .bool false]) ∧ Below w.heap.size w w' := by
  have HB := hid (below2 w)
  have HU := HU w
  go_enter Tryz.func8, Tryz.ntmps8
  go_wp2_with (go_at_call 19; refine (HU.out _ (HB.out _ _)).mono ?_; rintro e w1 ⟨rfl, hb1⟩; obtain ⟨hc, hf⟩ := bcell hb1; have hz : w.heap.size + 1 < w1.heap.size := (by have := hb1.size; simp at this; omega); have p0 := hc w.heap.size 0 (by simp; omega); have p1 := hc w.heap.size 1 (by simp; omega); have p2 := hc w.heap.size 2 (by simp; omega); simp at p0 p1 p2; have p3 : ∀ j, w1.frozen? ⟨w.heap.size, j, none⟩ = false := (fun j => (hf w.heap.size j (by simp; omega)).trans (by simp)))
  refine bodyPost_ret (v := .tuple #[.agg #[.int .i64 0, .int .i64 0, .string ⟨#[]⟩], .bool false]) (by simp [results, Tryz.results8, go_sem, cell_set_same, p0, p1, p2]) rfl ⟨rfl, ?_⟩
  iterate 3 (refine Below.setCell ?_ (by simp) _)
  exact (HB.out _ _).trans (hb1.mono (by simp; omega))

end Go.Proofs.YtadehoibjpmhhaaGreatDoor
