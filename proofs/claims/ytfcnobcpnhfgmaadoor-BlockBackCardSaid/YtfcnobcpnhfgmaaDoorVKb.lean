/- val.Decode once its first byte and its rest are known. Conditions: as in the text ahead. -/
import Derived.Test.YtfcnobcpnhfgmaaDoorVK
import Derived.Deep.RegionHeld3
import Derived.Deep.DrawnRows
namespace Go.Proofs.YtfcnobcpnhfgmaaDoor
open Go.RowKit

set_option maxHeartbeats 4000000 in
set_option maxRecDepth 100000 in
theorem vdecode_tt (b off m c x : Nat) (hc : 1 < c) (hm : m + 1 ≤ c) (hx : x < 256) (hml : m ≤ 100000) (w : World) (hcell : w.cell? ⟨b, off, none⟩ = some (.int .u8 (x : Int))) (k n : Int) (S : ByteArray) (HD : DecHyp w x (some ⟨b, off + 1, none⟩) m (c - 1) k n S true true) :
    Calls Tryd.prog 118 #[.slice (some ⟨b, off, none⟩) (m + 1) c] w fun e w' => e = .returned (.tuple #[.agg #[.int .i64 k, .int .i64 n, .string S], .bool true]) ∧ Below w.heap.size w w' := by
  have H1 := hid HD.1
  have H2 := hid HD.2
  clear HD
  have hlt := cell_lt hcell
  have HB := hid (below_new w)
  have hcell' : ∀ o, (w.alloc o).cell? ⟨b, off, none⟩ = some (.int .u8 (x : Int)) := fun o => by
    rw [(below_new w o).cell (p := ⟨b, off, none⟩) hlt]; exact hcell
  have HB2 := hid (below2 w)
  have hne := World.new_ne w ⟨b, off, none⟩ hcell
  have hne2 : w.heap.size + 1 ≠ b := by omega
  have hcell2 : ∀ o1 o2, ((w.alloc o1).alloc o2).cell? ⟨b, off, none⟩ = some (.int .u8 (x : Int)) := fun o1 o2 => by
    rw [(below2 w o1 o2).cell (p := ⟨b, off, none⟩) hlt]; exact hcell
  have hwrap : IntKind.i64.wrap (x : Int) = (x : Int) := IntWalk.i64_in _ (by omega)
  have h10 : (1 : Int) ≤ (m : Int) + 1 := by omega
  have h11 : (m : Int) + 1 ≤ (c : Int) := by omega
  have h12 : (c = 1) = False := by simp; omega
  go_enter Tryd.func118, Tryd.ntmps118
  go_wp2
  go_region_held3 (fun w' => w'.cell? ⟨b, off, none⟩ = some (.int .u8 (x : Int))) (first | go_keep | (rw [hb1.cell (p := ⟨b, off, none⟩) (by simp; omega)]; first | go_keep | (simp [hcell', hcell2]))) ((go_at_call 142; with_reducible refine (H1.out _ ?_).mono ?_; (first | (with_reducible exact (HB.out _).drew) | (with_reducible exact (HB2.out _ _).drew) | (with_reducible exact (HB.out _)) | (with_reducible exact (HB2.out _ _))); rintro e w1 ⟨rfl, hbw1, hb1⟩; obtain ⟨hc1, hf1⟩ := bcell hb1; have hz1 : w.heap.size < w1.heap.size := (by have := hb1.size; simp at this; omega); have hne1 : w1.heap.size ≠ b := (by omega); (first | (have hz1b : w.heap.size + 1 < w1.heap.size := (by have := hb1.size; simp at this; omega); have p0 : w1.cell? ⟨w.heap.size + 1, 0, none⟩ = some (.int .i64 0) := ((hb1.cell (p := ⟨w.heap.size + 1, 0, none⟩) (by simp)).trans (by simp)); have p1 : w1.cell? ⟨w.heap.size + 1, 1, none⟩ = some (.int .i64 0) := ((hb1.cell (p := ⟨w.heap.size + 1, 1, none⟩) (by simp)).trans (by simp)); have p2 : w1.cell? ⟨w.heap.size + 1, 2, none⟩ = some (.string ⟨#[]⟩) := ((hb1.cell (p := ⟨w.heap.size + 1, 2, none⟩) (by simp)).trans (by simp))) | skip); have g0 := hc1 w.heap.size 0 (by simp <;> omega); have g1 := hc1 w.heap.size 1 (by simp <;> omega); have g2 := hc1 w.heap.size 2 (by simp <;> omega); simp at g0 g1 g2; have z0 : ∀ j, w1.frozen? ⟨w.heap.size, j, none⟩ = false := (fun j => (hb1.frozen (p := ⟨w.heap.size, j, none⟩) (by simp <;> omega)).trans (by simp [World.frozen?_alloc_at, World.frozen?_alloc_past])); have hcw : w1.cell? ⟨b, off, none⟩ = some (.int .u8 (x : Int)) := (by rw [hb1.cell (p := ⟨b, off, none⟩) (by simp; omega)]; simp [hcell', hcell2])))
  all_goals clear H1 hcell' hcell2 HB HB2 hcell hf1 hc1 hwrap h10 h11 h12 hcw
  · obtain ⟨W, hW⟩ : ∃ W, w1.alloc (.cells #[.int .i64 k, .int .i64 n, .string S] 38) = W := ⟨_, rfl⟩
    have v0 : W.cell? ⟨w1.heap.size, 0, none⟩ = some (.int .i64 k) := by rw [← hW, World.cell?_alloc_at _ _ _ _ rfl]; rfl
    have v1 : W.cell? ⟨w1.heap.size, 1, none⟩ = some (.int .i64 n) := by rw [← hW, World.cell?_alloc_at _ _ _ _ rfl]; rfl
    have v2 : W.cell? ⟨w1.heap.size, 2, none⟩ = some (.string S) := by rw [← hW, World.cell?_alloc_at _ _ _ _ rfl]; rfl
    have r0 : W.cell? ⟨w.heap.size, 0, none⟩ = some (.int .i64 0) := by rw [← hW, World.cell?_alloc_past _ _ _ hz1]; exact g0
    have r1 : W.cell? ⟨w.heap.size, 1, none⟩ = some (.int .i64 0) := by rw [← hW, World.cell?_alloc_past _ _ _ hz1]; exact g1
    have r2 : W.cell? ⟨w.heap.size, 2, none⟩ = some (.string ⟨#[]⟩) := by rw [← hW, World.cell?_alloc_past _ _ _ hz1]; exact g2
    have y0 : ∀ j, W.frozen? ⟨w.heap.size, j, none⟩ = false := fun j => by rw [← hW, World.frozen?_alloc_past _ _ _ hz1]; exact z0 j
    have hbW : Below w.heap.size w W := by rw [← hW]; exact hbw1.alloc (Nat.le_of_lt hz1) _
    have hzW : w.heap.size < W.heap.size := by rw [← hW]; simp; omega
    have hzV : w1.heap.size < W.heap.size := by rw [← hW]; simp
    rw [hW]
    clear hb1 hbw1 hW g0 g1 g2 z0
    go_wp2_with (go_at_call 94; with_reducible refine (H2.out _ hbW).mono ?_; rintro e w2 ⟨rfl, hbw2, hb2⟩; have q0 : w2.cell? ⟨w.heap.size, 0, none⟩ = some (.int .i64 0) := ((hb2.cell (p := ⟨w.heap.size, 0, none⟩) hzW).trans r0); have q1 : w2.cell? ⟨w.heap.size, 1, none⟩ = some (.int .i64 0) := ((hb2.cell (p := ⟨w.heap.size, 1, none⟩) hzW).trans r1); have q2 : w2.cell? ⟨w.heap.size, 2, none⟩ = some (.string ⟨#[]⟩) := ((hb2.cell (p := ⟨w.heap.size, 2, none⟩) hzW).trans r2); have u0 : w2.cell? ⟨w1.heap.size, 0, none⟩ = some (.int .i64 k) := ((hb2.cell (p := ⟨w1.heap.size, 0, none⟩) hzV).trans v0); have u1 : w2.cell? ⟨w1.heap.size, 1, none⟩ = some (.int .i64 n) := ((hb2.cell (p := ⟨w1.heap.size, 1, none⟩) hzV).trans v1); have u2 : w2.cell? ⟨w1.heap.size, 2, none⟩ = some (.string S) := ((hb2.cell (p := ⟨w1.heap.size, 2, none⟩) hzV).trans v2); have x0 : ∀ j, w2.frozen? ⟨w.heap.size, j, none⟩ = false := (fun j => (hb2.frozen (p := ⟨w.heap.size, j, none⟩) hzW).trans (y0 j)))
    refine bodyPost_ret (v := .tuple #[.agg #[.int .i64 k, .int .i64 n, .string S], .bool true]) (by simp [results, Tryd.results118, go_sem, cell_set_same, q0, q1, q2]) rfl ⟨rfl, ?_⟩
    exact ((hbw2.setCell (by simp) _).setCell (by simp) _).setCell (by simp) _
  · obtain ⟨W, hW⟩ : ∃ W, ((w1.setCell ⟨w.heap.size + 1, 0, none⟩ (.int .i64 k)).setCell ⟨w.heap.size + 1, 1, none⟩ (.int .i64 n)).setCell ⟨w.heap.size + 1, 2, none⟩ (.string S) = W := ⟨_, rfl⟩
    have v0 : W.cell? ⟨w.heap.size + 1, 0, none⟩ = some (.int .i64 k) := by rw [← hW]; exact (cell_set3 p0 p1 p2).1
    have v1 : W.cell? ⟨w.heap.size + 1, 1, none⟩ = some (.int .i64 n) := by rw [← hW]; exact (cell_set3 p0 p1 p2).2.1
    have v2 : W.cell? ⟨w.heap.size + 1, 2, none⟩ = some (.string S) := by rw [← hW]; exact (cell_set3 p0 p1 p2).2.2.1
    have r0 : W.cell? ⟨w.heap.size, 0, none⟩ = some (.int .i64 0) := by rw [← hW, (cell_set3 p0 p1 p2).2.2.2 _ _ (by omega)]; exact g0
    have r1 : W.cell? ⟨w.heap.size, 1, none⟩ = some (.int .i64 0) := by rw [← hW, (cell_set3 p0 p1 p2).2.2.2 _ _ (by omega)]; exact g1
    have r2 : W.cell? ⟨w.heap.size, 2, none⟩ = some (.string ⟨#[]⟩) := by rw [← hW, (cell_set3 p0 p1 p2).2.2.2 _ _ (by omega)]; exact g2
    have y0 : ∀ j, W.frozen? ⟨w.heap.size, j, none⟩ = false := fun j => by rw [← hW]; simp [z0]
    have hbW : Below w.heap.size w W := by rw [← hW]; exact ((hbw1.setCell (by simp) _).setCell (by simp) _).setCell (by simp) _
    have hzW : w.heap.size < W.heap.size := by rw [← hW]; simp; omega
    have hzV : w.heap.size + 1 < W.heap.size := by rw [← hW]; simp; omega
    rw [hW]
    clear hb1 hbw1 hW g0 g1 g2 z0 p0 p1 p2
    go_wp2_with (go_at_call 94; with_reducible refine (H2.out _ hbW).mono ?_; rintro e w2 ⟨rfl, hbw2, hb2⟩; have q0 : w2.cell? ⟨w.heap.size, 0, none⟩ = some (.int .i64 0) := ((hb2.cell (p := ⟨w.heap.size, 0, none⟩) hzW).trans r0); have q1 : w2.cell? ⟨w.heap.size, 1, none⟩ = some (.int .i64 0) := ((hb2.cell (p := ⟨w.heap.size, 1, none⟩) hzW).trans r1); have q2 : w2.cell? ⟨w.heap.size, 2, none⟩ = some (.string ⟨#[]⟩) := ((hb2.cell (p := ⟨w.heap.size, 2, none⟩) hzW).trans r2); have u0 : w2.cell? ⟨w.heap.size + 1, 0, none⟩ = some (.int .i64 k) := ((hb2.cell (p := ⟨w.heap.size + 1, 0, none⟩) hzV).trans v0); have u1 : w2.cell? ⟨w.heap.size + 1, 1, none⟩ = some (.int .i64 n) := ((hb2.cell (p := ⟨w.heap.size + 1, 1, none⟩) hzV).trans v1); have u2 : w2.cell? ⟨w.heap.size + 1, 2, none⟩ = some (.string S) := ((hb2.cell (p := ⟨w.heap.size + 1, 2, none⟩) hzV).trans v2); have x0 : ∀ j, w2.frozen? ⟨w.heap.size, j, none⟩ = false := (fun j => (hb2.frozen (p := ⟨w.heap.size, j, none⟩) hzW).trans (y0 j)))
    refine bodyPost_ret (v := .tuple #[.agg #[.int .i64 k, .int .i64 n, .string S], .bool true]) (by simp [results, Tryd.results118, go_sem, cell_set_same, q0, q1, q2]) rfl ⟨rfl, ?_⟩
    exact ((hbw2.setCell (by simp) _).setCell (by simp) _).setCell (by simp) _

set_option maxHeartbeats 4000000 in
set_option maxRecDepth 100000 in
theorem vdecode_ff (b off m c x : Nat) (hc : 1 < c) (hm : m + 1 ≤ c) (hx : x < 256) (hml : m ≤ 100000) (w : World) (hcell : w.cell? ⟨b, off, none⟩ = some (.int .u8 (x : Int))) (k n : Int) (S : ByteArray) (R : Bool) (HD : DecHyp w x (some ⟨b, off + 1, none⟩) m (c - 1) k n S false R) :
    Calls Tryd.prog 118 #[.slice (some ⟨b, off, none⟩) (m + 1) c] w fun e w' => e = .returned (.tuple #[.agg #[.int .i64 0, .int .i64 0, .string ⟨#[]⟩], .bool false]) ∧ Below w.heap.size w w' := by
  have H1 := hid HD.1
  have H2 := hid HD.2
  clear HD
  have hlt := cell_lt hcell
  have HB := hid (below_new w)
  have hcell' : ∀ o, (w.alloc o).cell? ⟨b, off, none⟩ = some (.int .u8 (x : Int)) := fun o => by
    rw [(below_new w o).cell (p := ⟨b, off, none⟩) hlt]; exact hcell
  have HB2 := hid (below2 w)
  have hne := World.new_ne w ⟨b, off, none⟩ hcell
  have hne2 : w.heap.size + 1 ≠ b := by omega
  have hcell2 : ∀ o1 o2, ((w.alloc o1).alloc o2).cell? ⟨b, off, none⟩ = some (.int .u8 (x : Int)) := fun o1 o2 => by
    rw [(below2 w o1 o2).cell (p := ⟨b, off, none⟩) hlt]; exact hcell
  have hwrap : IntKind.i64.wrap (x : Int) = (x : Int) := IntWalk.i64_in _ (by omega)
  have h10 : (1 : Int) ≤ (m : Int) + 1 := by omega
  have h11 : (m : Int) + 1 ≤ (c : Int) := by omega
  have h12 : (c = 1) = False := by simp; omega
  go_enter Tryd.func118, Tryd.ntmps118
  go_wp2
  go_region_held3 (fun w' => w'.cell? ⟨b, off, none⟩ = some (.int .u8 (x : Int))) (first | go_keep | (rw [hb1.cell (p := ⟨b, off, none⟩) (by simp; omega)]; first | go_keep | (simp [hcell', hcell2]))) ((go_at_call 142; with_reducible refine (H1.out _ ?_).mono ?_; (first | (with_reducible exact (HB.out _).drew) | (with_reducible exact (HB2.out _ _).drew) | (with_reducible exact (HB.out _)) | (with_reducible exact (HB2.out _ _))); rintro e w1 ⟨rfl, hbw1, hb1⟩; obtain ⟨hc1, hf1⟩ := bcell hb1; have hz1 : w.heap.size < w1.heap.size := (by have := hb1.size; simp at this; omega); have hne1 : w1.heap.size ≠ b := (by omega); (first | (have hz1b : w.heap.size + 1 < w1.heap.size := (by have := hb1.size; simp at this; omega); have p0 : w1.cell? ⟨w.heap.size + 1, 0, none⟩ = some (.int .i64 0) := ((hb1.cell (p := ⟨w.heap.size + 1, 0, none⟩) (by simp)).trans (by simp)); have p1 : w1.cell? ⟨w.heap.size + 1, 1, none⟩ = some (.int .i64 0) := ((hb1.cell (p := ⟨w.heap.size + 1, 1, none⟩) (by simp)).trans (by simp)); have p2 : w1.cell? ⟨w.heap.size + 1, 2, none⟩ = some (.string ⟨#[]⟩) := ((hb1.cell (p := ⟨w.heap.size + 1, 2, none⟩) (by simp)).trans (by simp))) | skip); have g0 := hc1 w.heap.size 0 (by simp <;> omega); have g1 := hc1 w.heap.size 1 (by simp <;> omega); have g2 := hc1 w.heap.size 2 (by simp <;> omega); simp at g0 g1 g2; have z0 : ∀ j, w1.frozen? ⟨w.heap.size, j, none⟩ = false := (fun j => (hb1.frozen (p := ⟨w.heap.size, j, none⟩) (by simp <;> omega)).trans (by simp [World.frozen?_alloc_at, World.frozen?_alloc_past])); have hcw : w1.cell? ⟨b, off, none⟩ = some (.int .u8 (x : Int)) := (by rw [hb1.cell (p := ⟨b, off, none⟩) (by simp; omega)]; simp [hcell', hcell2])))
  all_goals clear H1 hcell' hcell2 HB HB2 hcell hf1 hc1 hwrap h10 h11 h12 hcw
  · obtain ⟨W, hW⟩ : ∃ W, w1.alloc (.cells #[.int .i64 k, .int .i64 n, .string S] 38) = W := ⟨_, rfl⟩
    have v0 : W.cell? ⟨w1.heap.size, 0, none⟩ = some (.int .i64 k) := by rw [← hW, World.cell?_alloc_at _ _ _ _ rfl]; rfl
    have v1 : W.cell? ⟨w1.heap.size, 1, none⟩ = some (.int .i64 n) := by rw [← hW, World.cell?_alloc_at _ _ _ _ rfl]; rfl
    have v2 : W.cell? ⟨w1.heap.size, 2, none⟩ = some (.string S) := by rw [← hW, World.cell?_alloc_at _ _ _ _ rfl]; rfl
    have r0 : W.cell? ⟨w.heap.size, 0, none⟩ = some (.int .i64 0) := by rw [← hW, World.cell?_alloc_past _ _ _ hz1]; exact g0
    have r1 : W.cell? ⟨w.heap.size, 1, none⟩ = some (.int .i64 0) := by rw [← hW, World.cell?_alloc_past _ _ _ hz1]; exact g1
    have r2 : W.cell? ⟨w.heap.size, 2, none⟩ = some (.string ⟨#[]⟩) := by rw [← hW, World.cell?_alloc_past _ _ _ hz1]; exact g2
    have y0 : ∀ j, W.frozen? ⟨w.heap.size, j, none⟩ = false := fun j => by rw [← hW, World.frozen?_alloc_past _ _ _ hz1]; exact z0 j
    have hbW : Below w.heap.size w W := by rw [← hW]; exact hbw1.alloc (Nat.le_of_lt hz1) _
    have hzW : w.heap.size < W.heap.size := by rw [← hW]; simp; omega
    have hzV : w1.heap.size < W.heap.size := by rw [← hW]; simp
    rw [hW]
    clear hb1 hbw1 hW g0 g1 g2 z0
    go_wp2
    refine bodyPost_ret (v := .tuple #[.agg #[.int .i64 0, .int .i64 0, .string ⟨#[]⟩], .bool false]) (by simp [results, Tryd.results118, go_sem, cell_set_same, r0, r1, r2]) rfl ⟨rfl, ?_⟩
    exact ((hbW.setCell (by simp) _).setCell (by simp) _).setCell (by simp) _
  · obtain ⟨W, hW⟩ : ∃ W, ((w1.setCell ⟨w.heap.size + 1, 0, none⟩ (.int .i64 k)).setCell ⟨w.heap.size + 1, 1, none⟩ (.int .i64 n)).setCell ⟨w.heap.size + 1, 2, none⟩ (.string S) = W := ⟨_, rfl⟩
    have v0 : W.cell? ⟨w.heap.size + 1, 0, none⟩ = some (.int .i64 k) := by rw [← hW]; exact (cell_set3 p0 p1 p2).1
    have v1 : W.cell? ⟨w.heap.size + 1, 1, none⟩ = some (.int .i64 n) := by rw [← hW]; exact (cell_set3 p0 p1 p2).2.1
    have v2 : W.cell? ⟨w.heap.size + 1, 2, none⟩ = some (.string S) := by rw [← hW]; exact (cell_set3 p0 p1 p2).2.2.1
    have r0 : W.cell? ⟨w.heap.size, 0, none⟩ = some (.int .i64 0) := by rw [← hW, (cell_set3 p0 p1 p2).2.2.2 _ _ (by omega)]; exact g0
    have r1 : W.cell? ⟨w.heap.size, 1, none⟩ = some (.int .i64 0) := by rw [← hW, (cell_set3 p0 p1 p2).2.2.2 _ _ (by omega)]; exact g1
    have r2 : W.cell? ⟨w.heap.size, 2, none⟩ = some (.string ⟨#[]⟩) := by rw [← hW, (cell_set3 p0 p1 p2).2.2.2 _ _ (by omega)]; exact g2
    have y0 : ∀ j, W.frozen? ⟨w.heap.size, j, none⟩ = false := fun j => by rw [← hW]; simp [z0]
    have hbW : Below w.heap.size w W := by rw [← hW]; exact ((hbw1.setCell (by simp) _).setCell (by simp) _).setCell (by simp) _
    have hzW : w.heap.size < W.heap.size := by rw [← hW]; simp; omega
    have hzV : w.heap.size + 1 < W.heap.size := by rw [← hW]; simp; omega
    rw [hW]
    clear hb1 hbw1 hW g0 g1 g2 z0 p0 p1 p2
    go_wp2
    refine bodyPost_ret (v := .tuple #[.agg #[.int .i64 0, .int .i64 0, .string ⟨#[]⟩], .bool false]) (by simp [results, Tryd.results118, go_sem, cell_set_same, r0, r1, r2]) rfl ⟨rfl, ?_⟩
    exact ((hbW.setCell (by simp) _).setCell (by simp) _).setCell (by simp) _

set_option maxHeartbeats 4000000 in
set_option maxRecDepth 100000 in
theorem vdecode_f1 (b off x : Nat) (hx : x < 256) (w : World) (hcell : w.cell? ⟨b, off, none⟩ = some (.int .u8 (x : Int))) (k n : Int) (S : ByteArray) (R : Bool) (HD : DecHyp w x (some ⟨b, off, none⟩) 0 0 k n S false R) :
    Calls Tryd.prog 118 #[.slice (some ⟨b, off, none⟩) 1 1] w fun e w' => e = .returned (.tuple #[.agg #[.int .i64 0, .int .i64 0, .string ⟨#[]⟩], .bool false]) ∧ Below w.heap.size w w' := by
  have H1 := hid HD.1
  have H2 := hid HD.2
  clear HD
  have hlt := cell_lt hcell
  have HB := hid (below_new w)
  have hcell' : ∀ o, (w.alloc o).cell? ⟨b, off, none⟩ = some (.int .u8 (x : Int)) := fun o => by
    rw [(below_new w o).cell (p := ⟨b, off, none⟩) hlt]; exact hcell
  have HB2 := hid (below2 w)
  have hne := World.new_ne w ⟨b, off, none⟩ hcell
  have hne2 : w.heap.size + 1 ≠ b := by omega
  have hcell2 : ∀ o1 o2, ((w.alloc o1).alloc o2).cell? ⟨b, off, none⟩ = some (.int .u8 (x : Int)) := fun o1 o2 => by
    rw [(below2 w o1 o2).cell (p := ⟨b, off, none⟩) hlt]; exact hcell
  have hwrap : IntKind.i64.wrap (x : Int) = (x : Int) := IntWalk.i64_in _ (by omega)
  go_enter Tryd.func118, Tryd.ntmps118
  go_wp2
  go_region_held3 (fun w' => w'.cell? ⟨b, off, none⟩ = some (.int .u8 (x : Int))) (first | go_keep | (rw [hb1.cell (p := ⟨b, off, none⟩) (by simp; omega)]; first | go_keep | (simp [hcell', hcell2]))) ((go_at_call 142; with_reducible refine (H1.out _ ?_).mono ?_; (first | (with_reducible exact (HB.out _).drew) | (with_reducible exact (HB2.out _ _).drew) | (with_reducible exact (HB.out _)) | (with_reducible exact (HB2.out _ _))); rintro e w1 ⟨rfl, hbw1, hb1⟩; obtain ⟨hc1, hf1⟩ := bcell hb1; have hz1 : w.heap.size < w1.heap.size := (by have := hb1.size; simp at this; omega); have hne1 : w1.heap.size ≠ b := (by omega); (first | (have hz1b : w.heap.size + 1 < w1.heap.size := (by have := hb1.size; simp at this; omega); have p0 : w1.cell? ⟨w.heap.size + 1, 0, none⟩ = some (.int .i64 0) := ((hb1.cell (p := ⟨w.heap.size + 1, 0, none⟩) (by simp)).trans (by simp)); have p1 : w1.cell? ⟨w.heap.size + 1, 1, none⟩ = some (.int .i64 0) := ((hb1.cell (p := ⟨w.heap.size + 1, 1, none⟩) (by simp)).trans (by simp)); have p2 : w1.cell? ⟨w.heap.size + 1, 2, none⟩ = some (.string ⟨#[]⟩) := ((hb1.cell (p := ⟨w.heap.size + 1, 2, none⟩) (by simp)).trans (by simp))) | skip); have g0 := hc1 w.heap.size 0 (by simp <;> omega); have g1 := hc1 w.heap.size 1 (by simp <;> omega); have g2 := hc1 w.heap.size 2 (by simp <;> omega); simp at g0 g1 g2; have z0 : ∀ j, w1.frozen? ⟨w.heap.size, j, none⟩ = false := (fun j => (hb1.frozen (p := ⟨w.heap.size, j, none⟩) (by simp <;> omega)).trans (by simp [World.frozen?_alloc_at, World.frozen?_alloc_past])); have hcw : w1.cell? ⟨b, off, none⟩ = some (.int .u8 (x : Int)) := (by rw [hb1.cell (p := ⟨b, off, none⟩) (by simp; omega)]; simp [hcell', hcell2])))
  all_goals clear H1 hcell' hcell2 HB HB2 hcell hf1 hc1 hwrap hcw
  · obtain ⟨W, hW⟩ : ∃ W, w1.alloc (.cells #[.int .i64 k, .int .i64 n, .string S] 38) = W := ⟨_, rfl⟩
    have v0 : W.cell? ⟨w1.heap.size, 0, none⟩ = some (.int .i64 k) := by rw [← hW, World.cell?_alloc_at _ _ _ _ rfl]; rfl
    have v1 : W.cell? ⟨w1.heap.size, 1, none⟩ = some (.int .i64 n) := by rw [← hW, World.cell?_alloc_at _ _ _ _ rfl]; rfl
    have v2 : W.cell? ⟨w1.heap.size, 2, none⟩ = some (.string S) := by rw [← hW, World.cell?_alloc_at _ _ _ _ rfl]; rfl
    have r0 : W.cell? ⟨w.heap.size, 0, none⟩ = some (.int .i64 0) := by rw [← hW, World.cell?_alloc_past _ _ _ hz1]; exact g0
    have r1 : W.cell? ⟨w.heap.size, 1, none⟩ = some (.int .i64 0) := by rw [← hW, World.cell?_alloc_past _ _ _ hz1]; exact g1
    have r2 : W.cell? ⟨w.heap.size, 2, none⟩ = some (.string ⟨#[]⟩) := by rw [← hW, World.cell?_alloc_past _ _ _ hz1]; exact g2
    have y0 : ∀ j, W.frozen? ⟨w.heap.size, j, none⟩ = false := fun j => by rw [← hW, World.frozen?_alloc_past _ _ _ hz1]; exact z0 j
    have hbW : Below w.heap.size w W := by rw [← hW]; exact hbw1.alloc (Nat.le_of_lt hz1) _
    have hzW : w.heap.size < W.heap.size := by rw [← hW]; simp; omega
    have hzV : w1.heap.size < W.heap.size := by rw [← hW]; simp
    rw [hW]
    clear hb1 hbw1 hW g0 g1 g2 z0
    go_wp2
    refine bodyPost_ret (v := .tuple #[.agg #[.int .i64 0, .int .i64 0, .string ⟨#[]⟩], .bool false]) (by simp [results, Tryd.results118, go_sem, cell_set_same, r0, r1, r2]) rfl ⟨rfl, ?_⟩
    exact ((hbW.setCell (by simp) _).setCell (by simp) _).setCell (by simp) _
  · obtain ⟨W, hW⟩ : ∃ W, ((w1.setCell ⟨w.heap.size + 1, 0, none⟩ (.int .i64 k)).setCell ⟨w.heap.size + 1, 1, none⟩ (.int .i64 n)).setCell ⟨w.heap.size + 1, 2, none⟩ (.string S) = W := ⟨_, rfl⟩
    have v0 : W.cell? ⟨w.heap.size + 1, 0, none⟩ = some (.int .i64 k) := by rw [← hW]; exact (cell_set3 p0 p1 p2).1
    have v1 : W.cell? ⟨w.heap.size + 1, 1, none⟩ = some (.int .i64 n) := by rw [← hW]; exact (cell_set3 p0 p1 p2).2.1
    have v2 : W.cell? ⟨w.heap.size + 1, 2, none⟩ = some (.string S) := by rw [← hW]; exact (cell_set3 p0 p1 p2).2.2.1
    have r0 : W.cell? ⟨w.heap.size, 0, none⟩ = some (.int .i64 0) := by rw [← hW, (cell_set3 p0 p1 p2).2.2.2 _ _ (by omega)]; exact g0
    have r1 : W.cell? ⟨w.heap.size, 1, none⟩ = some (.int .i64 0) := by rw [← hW, (cell_set3 p0 p1 p2).2.2.2 _ _ (by omega)]; exact g1
    have r2 : W.cell? ⟨w.heap.size, 2, none⟩ = some (.string ⟨#[]⟩) := by rw [← hW, (cell_set3 p0 p1 p2).2.2.2 _ _ (by omega)]; exact g2
    have y0 : ∀ j, W.frozen? ⟨w.heap.size, j, none⟩ = false := fun j => by rw [← hW]; simp [z0]
    have hbW : Below w.heap.size w W := by rw [← hW]; exact ((hbw1.setCell (by simp) _).setCell (by simp) _).setCell (by simp) _
    have hzW : w.heap.size < W.heap.size := by rw [← hW]; simp; omega
    have hzV : w.heap.size + 1 < W.heap.size := by rw [← hW]; simp; omega
    rw [hW]
    clear hb1 hbw1 hW g0 g1 g2 z0 p0 p1 p2
    go_wp2
    refine bodyPost_ret (v := .tuple #[.agg #[.int .i64 0, .int .i64 0, .string ⟨#[]⟩], .bool false]) (by simp [results, Tryd.results118, go_sem, cell_set_same, r0, r1, r2]) rfl ⟨rfl, ?_⟩
    exact ((hbW.setCell (by simp) _).setCell (by simp) _).setCell (by simp) _

set_option maxHeartbeats 4000000 in
set_option maxRecDepth 100000 in
theorem vdecode_tf (b off m c x : Nat) (hc : 1 < c) (hm : m + 1 ≤ c) (hx : x < 256) (hml : m ≤ 100000) (w : World) (hcell : w.cell? ⟨b, off, none⟩ = some (.int .u8 (x : Int))) (k n : Int) (S : ByteArray) (HD : DecHyp w x (some ⟨b, off + 1, none⟩) m (c - 1) k n S true false) :
    Calls Tryd.prog 118 #[.slice (some ⟨b, off, none⟩) (m + 1) c] w fun e w' => e = .returned (.tuple #[.agg #[.int .i64 0, .int .i64 0, .string ⟨#[]⟩], .bool false]) ∧ Below w.heap.size w w' := by
  have H1 := hid HD.1
  have H2 := hid HD.2
  clear HD
  have hlt := cell_lt hcell
  have HB := hid (below_new w)
  have hcell' : ∀ o, (w.alloc o).cell? ⟨b, off, none⟩ = some (.int .u8 (x : Int)) := fun o => by
    rw [(below_new w o).cell (p := ⟨b, off, none⟩) hlt]; exact hcell
  have HB2 := hid (below2 w)
  have hne := World.new_ne w ⟨b, off, none⟩ hcell
  have hne2 : w.heap.size + 1 ≠ b := by omega
  have hcell2 : ∀ o1 o2, ((w.alloc o1).alloc o2).cell? ⟨b, off, none⟩ = some (.int .u8 (x : Int)) := fun o1 o2 => by
    rw [(below2 w o1 o2).cell (p := ⟨b, off, none⟩) hlt]; exact hcell
  have hwrap : IntKind.i64.wrap (x : Int) = (x : Int) := IntWalk.i64_in _ (by omega)
  have h10 : (1 : Int) ≤ (m : Int) + 1 := by omega
  have h11 : (m : Int) + 1 ≤ (c : Int) := by omega
  have h12 : (c = 1) = False := by simp; omega
  go_enter Tryd.func118, Tryd.ntmps118
  go_wp2
  go_region_held3 (fun w' => w'.cell? ⟨b, off, none⟩ = some (.int .u8 (x : Int))) (first | go_keep | (rw [hb1.cell (p := ⟨b, off, none⟩) (by simp; omega)]; first | go_keep | (simp [hcell', hcell2]))) ((go_at_call 142; with_reducible refine (H1.out _ ?_).mono ?_; (first | (with_reducible exact (HB.out _).drew) | (with_reducible exact (HB2.out _ _).drew) | (with_reducible exact (HB.out _)) | (with_reducible exact (HB2.out _ _))); rintro e w1 ⟨rfl, hbw1, hb1⟩; obtain ⟨hc1, hf1⟩ := bcell hb1; have hz1 : w.heap.size < w1.heap.size := (by have := hb1.size; simp at this; omega); have hne1 : w1.heap.size ≠ b := (by omega); (first | (have hz1b : w.heap.size + 1 < w1.heap.size := (by have := hb1.size; simp at this; omega); have p0 : w1.cell? ⟨w.heap.size + 1, 0, none⟩ = some (.int .i64 0) := ((hb1.cell (p := ⟨w.heap.size + 1, 0, none⟩) (by simp)).trans (by simp)); have p1 : w1.cell? ⟨w.heap.size + 1, 1, none⟩ = some (.int .i64 0) := ((hb1.cell (p := ⟨w.heap.size + 1, 1, none⟩) (by simp)).trans (by simp)); have p2 : w1.cell? ⟨w.heap.size + 1, 2, none⟩ = some (.string ⟨#[]⟩) := ((hb1.cell (p := ⟨w.heap.size + 1, 2, none⟩) (by simp)).trans (by simp))) | skip); have g0 := hc1 w.heap.size 0 (by simp <;> omega); have g1 := hc1 w.heap.size 1 (by simp <;> omega); have g2 := hc1 w.heap.size 2 (by simp <;> omega); simp at g0 g1 g2; have z0 : ∀ j, w1.frozen? ⟨w.heap.size, j, none⟩ = false := (fun j => (hb1.frozen (p := ⟨w.heap.size, j, none⟩) (by simp <;> omega)).trans (by simp [World.frozen?_alloc_at, World.frozen?_alloc_past])); have hcw : w1.cell? ⟨b, off, none⟩ = some (.int .u8 (x : Int)) := (by rw [hb1.cell (p := ⟨b, off, none⟩) (by simp; omega)]; simp [hcell', hcell2])))
  all_goals clear H1 hcell' hcell2 HB HB2 hcell hf1 hc1 hwrap h10 h11 h12 hcw
  · obtain ⟨W, hW⟩ : ∃ W, w1.alloc (.cells #[.int .i64 k, .int .i64 n, .string S] 38) = W := ⟨_, rfl⟩
    have v0 : W.cell? ⟨w1.heap.size, 0, none⟩ = some (.int .i64 k) := by rw [← hW, World.cell?_alloc_at _ _ _ _ rfl]; rfl
    have v1 : W.cell? ⟨w1.heap.size, 1, none⟩ = some (.int .i64 n) := by rw [← hW, World.cell?_alloc_at _ _ _ _ rfl]; rfl
    have v2 : W.cell? ⟨w1.heap.size, 2, none⟩ = some (.string S) := by rw [← hW, World.cell?_alloc_at _ _ _ _ rfl]; rfl
    have r0 : W.cell? ⟨w.heap.size, 0, none⟩ = some (.int .i64 0) := by rw [← hW, World.cell?_alloc_past _ _ _ hz1]; exact g0
    have r1 : W.cell? ⟨w.heap.size, 1, none⟩ = some (.int .i64 0) := by rw [← hW, World.cell?_alloc_past _ _ _ hz1]; exact g1
    have r2 : W.cell? ⟨w.heap.size, 2, none⟩ = some (.string ⟨#[]⟩) := by rw [← hW, World.cell?_alloc_past _ _ _ hz1]; exact g2
    have y0 : ∀ j, W.frozen? ⟨w.heap.size, j, none⟩ = false := fun j => by rw [← hW, World.frozen?_alloc_past _ _ _ hz1]; exact z0 j
    have hbW : Below w.heap.size w W := by rw [← hW]; exact hbw1.alloc (Nat.le_of_lt hz1) _
    have hzW : w.heap.size < W.heap.size := by rw [← hW]; simp; omega
    have hzV : w1.heap.size < W.heap.size := by rw [← hW]; simp
    rw [hW]
    clear hb1 hbw1 hW g0 g1 g2 z0
    go_wp2_with (go_at_call 94; with_reducible refine (H2.out _ hbW).mono ?_; rintro e w2 ⟨rfl, hbw2, hb2⟩; have q0 : w2.cell? ⟨w.heap.size, 0, none⟩ = some (.int .i64 0) := ((hb2.cell (p := ⟨w.heap.size, 0, none⟩) hzW).trans r0); have q1 : w2.cell? ⟨w.heap.size, 1, none⟩ = some (.int .i64 0) := ((hb2.cell (p := ⟨w.heap.size, 1, none⟩) hzW).trans r1); have q2 : w2.cell? ⟨w.heap.size, 2, none⟩ = some (.string ⟨#[]⟩) := ((hb2.cell (p := ⟨w.heap.size, 2, none⟩) hzW).trans r2); have u0 : w2.cell? ⟨w1.heap.size, 0, none⟩ = some (.int .i64 k) := ((hb2.cell (p := ⟨w1.heap.size, 0, none⟩) hzV).trans v0); have u1 : w2.cell? ⟨w1.heap.size, 1, none⟩ = some (.int .i64 n) := ((hb2.cell (p := ⟨w1.heap.size, 1, none⟩) hzV).trans v1); have u2 : w2.cell? ⟨w1.heap.size, 2, none⟩ = some (.string S) := ((hb2.cell (p := ⟨w1.heap.size, 2, none⟩) hzV).trans v2); have x0 : ∀ j, w2.frozen? ⟨w.heap.size, j, none⟩ = false := (fun j => (hb2.frozen (p := ⟨w.heap.size, j, none⟩) hzW).trans (y0 j)))
    refine bodyPost_ret (v := .tuple #[.agg #[.int .i64 0, .int .i64 0, .string ⟨#[]⟩], .bool false]) (by simp [results, Tryd.results118, go_sem, cell_set_same, q0, q1, q2]) rfl ⟨rfl, ?_⟩
    exact ((hbw2.setCell (by simp) _).setCell (by simp) _).setCell (by simp) _
  · obtain ⟨W, hW⟩ : ∃ W, ((w1.setCell ⟨w.heap.size + 1, 0, none⟩ (.int .i64 k)).setCell ⟨w.heap.size + 1, 1, none⟩ (.int .i64 n)).setCell ⟨w.heap.size + 1, 2, none⟩ (.string S) = W := ⟨_, rfl⟩
    have v0 : W.cell? ⟨w.heap.size + 1, 0, none⟩ = some (.int .i64 k) := by rw [← hW]; exact (cell_set3 p0 p1 p2).1
    have v1 : W.cell? ⟨w.heap.size + 1, 1, none⟩ = some (.int .i64 n) := by rw [← hW]; exact (cell_set3 p0 p1 p2).2.1
    have v2 : W.cell? ⟨w.heap.size + 1, 2, none⟩ = some (.string S) := by rw [← hW]; exact (cell_set3 p0 p1 p2).2.2.1
    have r0 : W.cell? ⟨w.heap.size, 0, none⟩ = some (.int .i64 0) := by rw [← hW, (cell_set3 p0 p1 p2).2.2.2 _ _ (by omega)]; exact g0
    have r1 : W.cell? ⟨w.heap.size, 1, none⟩ = some (.int .i64 0) := by rw [← hW, (cell_set3 p0 p1 p2).2.2.2 _ _ (by omega)]; exact g1
    have r2 : W.cell? ⟨w.heap.size, 2, none⟩ = some (.string ⟨#[]⟩) := by rw [← hW, (cell_set3 p0 p1 p2).2.2.2 _ _ (by omega)]; exact g2
    have y0 : ∀ j, W.frozen? ⟨w.heap.size, j, none⟩ = false := fun j => by rw [← hW]; simp [z0]
    have hbW : Below w.heap.size w W := by rw [← hW]; exact ((hbw1.setCell (by simp) _).setCell (by simp) _).setCell (by simp) _
    have hzW : w.heap.size < W.heap.size := by rw [← hW]; simp; omega
    have hzV : w.heap.size + 1 < W.heap.size := by rw [← hW]; simp; omega
    rw [hW]
    clear hb1 hbw1 hW g0 g1 g2 z0 p0 p1 p2
    go_wp2_with (go_at_call 94; with_reducible refine (H2.out _ hbW).mono ?_; rintro e w2 ⟨rfl, hbw2, hb2⟩; have q0 : w2.cell? ⟨w.heap.size, 0, none⟩ = some (.int .i64 0) := ((hb2.cell (p := ⟨w.heap.size, 0, none⟩) hzW).trans r0); have q1 : w2.cell? ⟨w.heap.size, 1, none⟩ = some (.int .i64 0) := ((hb2.cell (p := ⟨w.heap.size, 1, none⟩) hzW).trans r1); have q2 : w2.cell? ⟨w.heap.size, 2, none⟩ = some (.string ⟨#[]⟩) := ((hb2.cell (p := ⟨w.heap.size, 2, none⟩) hzW).trans r2); have u0 : w2.cell? ⟨w.heap.size + 1, 0, none⟩ = some (.int .i64 k) := ((hb2.cell (p := ⟨w.heap.size + 1, 0, none⟩) hzV).trans v0); have u1 : w2.cell? ⟨w.heap.size + 1, 1, none⟩ = some (.int .i64 n) := ((hb2.cell (p := ⟨w.heap.size + 1, 1, none⟩) hzV).trans v1); have u2 : w2.cell? ⟨w.heap.size + 1, 2, none⟩ = some (.string S) := ((hb2.cell (p := ⟨w.heap.size + 1, 2, none⟩) hzV).trans v2); have x0 : ∀ j, w2.frozen? ⟨w.heap.size, j, none⟩ = false := (fun j => (hb2.frozen (p := ⟨w.heap.size, j, none⟩) hzW).trans (y0 j)))
    refine bodyPost_ret (v := .tuple #[.agg #[.int .i64 0, .int .i64 0, .string ⟨#[]⟩], .bool false]) (by simp [results, Tryd.results118, go_sem, cell_set_same, q0, q1, q2]) rfl ⟨rfl, ?_⟩
    exact ((hbw2.setCell (by simp) _).setCell (by simp) _).setCell (by simp) _

/-- val.Decode, for every row of at most a thousand bytes. -/
theorem vdecode_any (l : List UInt8) (hl : l.length ≤ 100000) (A : Option Addr) (c : Nat) (hc : l.length ≤ c) (w : World) (hh : HoldsA w A l) (hL : LaidU w) :
    Calls Tryd.prog 118 #[.slice A l.length c] w fun e w' => e = vdecEnd l ∧ Below w.heap.size w w' := by
  cases l with
  | nil => exact vdecode_nil A c w
  | cons x r =>
    obtain ⟨b, off, rfl, hb⟩ := hh (by simp)
    have hx := x.toNat_lt
    have hcell : w.cell? ⟨b, off, none⟩ = some (.int .u8 (x.toNat : Int)) := by have := hb 0 (by simp); simpa using this
    have hlt := hb.lt (by simp)
    have hr : Holds w b (off + 1) r := by have := hb.drop 1; simpa using this
    have hrl : r.length ≤ 100000 := by simp at hl; omega
    have hcl : r.length + 1 ≤ c := by simpa using hc
    have e : (x :: r).length = r.length + 1 := rfl
    rw [e]
    have hR : ∀ (n : Int) (S : ByteArray), inI n → S.size ≤ 100000 → ∀ W, Below w.heap.size w W → Calls Tryd.prog 94 #[.agg #[.int .i64 (x.toNat : Int), .int .i64 n, .string S]] W fun e w' => e = .returned (.bool (vRight (x.toNat : Int) n S.data.toList)) ∧ Below w.heap.size w w' ∧ Below W.heap.size W w' := fun n S hn hS W hW =>
      vright_in (x.toNat : Int) hn S w (by omega) hL W hW
    have h0 : inI 0 := by unfold inI; omega
    have hv : vdecEnd (x :: r) = match decV (x.toNat : Int) r with
      | none => .returned (.tuple #[.agg #[.int .i64 0, .int .i64 0, .string ⟨#[]⟩], .bool false])
      | some (n, s) => if vRight (x.toNat : Int) n s = true then .returned (.tuple #[.agg #[.int .i64 (x.toNat : Int), .int .i64 n, .string ⟨s.toArray⟩], .bool true]) else .returned (.tuple #[.agg #[.int .i64 0, .int .i64 0, .string ⟨#[]⟩], .bool false]) := rfl
    rw [hv]
    by_cases hc1 : c = 1
    · have hr0 : r = [] := List.length_eq_zero_iff.1 (by omega)
      subst hr0 hc1
      have hd : decV (x.toNat : Int) [] = none := by
        unfold decV unText
        simp
      have hD : ∀ W, Below w.heap.size w W → Calls Tryd.prog 142 #[.int .i64 (x.toNat : Int), .slice (some ⟨b, off, none⟩) 0 0] W fun e w' => e = decEnd (x.toNat : Int) (decV (x.toNat : Int) []) ∧ Below w.heap.size w w' ∧ Below W.heap.size W w' := fun W hW =>
        (decode_any (x.toNat : Int) [] (by simp) (some ⟨b, off, none⟩) 0 W (fun h => absurd h (by simp))).mono fun _ _ ⟨he, hbb⟩ => ⟨he, hW.trans (hbb.mono hW.size), hbb⟩
      rw [hd] at hD ⊢
      exact vdecode_f1 b off x.toNat (by omega) w hcell (x.toNat : Int) 0 ⟨#[]⟩ _ ⟨hD, hR 0 ⟨#[]⟩ h0 (by decide)⟩
    · have hD : ∀ W, Below w.heap.size w W → Calls Tryd.prog 142 #[.int .i64 (x.toNat : Int), .slice (some ⟨b, off + 1, none⟩) r.length (c - 1)] W fun e w' => e = decEnd (x.toNat : Int) (decV (x.toNat : Int) r) ∧ Below w.heap.size w w' ∧ Below W.heap.size W w' := fun W hW =>
        (decode_any (x.toNat : Int) r hrl (some ⟨b, off + 1, none⟩) (c - 1) W (fun _ => ⟨b, off + 1, rfl, hr.below hW hlt⟩)).mono fun _ _ ⟨he, hbb⟩ => ⟨he, hW.trans (hbb.mono hW.size), hbb⟩
      cases hd : decV (x.toNat : Int) r with
      | none =>
        rw [hd] at hD
        exact vdecode_ff b off r.length c x.toNat (by omega) hcl (by omega) hrl w hcell (x.toNat : Int) 0 ⟨#[]⟩ _ ⟨hD, hR 0 ⟨#[]⟩ h0 (by decide)⟩
      | some p =>
        obtain ⟨n, s⟩ := p
        rw [hd] at hD
        obtain ⟨hn, hsl⟩ := decV_in hd
        have hRs := hR n ⟨s.toArray⟩ hn (by rw [mk_size]; omega)
        have es : (⟨s.toArray⟩ : ByteArray).data.toList = s := rfl
        rw [es] at hRs
        cases hrt : vRight (x.toNat : Int) n s
        · rw [hrt] at hRs
          exact (vdecode_tf b off r.length c x.toNat (by omega) hcl (by omega) hrl w hcell (x.toNat : Int) n ⟨s.toArray⟩ ⟨hD, hRs⟩).mono fun e w' ⟨he, hbb⟩ => ⟨by rw [he]; show _ = if vRight _ _ _ = true then _ else _; rw [hrt]; rfl, hbb⟩
        · rw [hrt] at hRs
          exact (vdecode_tt b off r.length c x.toNat (by omega) hcl (by omega) hrl w hcell (x.toNat : Int) n ⟨s.toArray⟩ ⟨hD, hRs⟩).mono fun e w' ⟨he, hbb⟩ => ⟨by rw [he]; show _ = if vRight _ _ _ = true then _ else _; rw [hrt]; rfl, hbb⟩

end Go.Proofs.YtfcnobcpnhfgmaaDoor
