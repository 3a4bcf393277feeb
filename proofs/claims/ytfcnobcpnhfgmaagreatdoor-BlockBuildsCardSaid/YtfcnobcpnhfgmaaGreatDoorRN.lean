/- The document's Decode, kind by kind: what its end does with the value that it has taken. Conditions: as each theorem names them. -/
import Derived.Test.YtfcnobcpnhfgmaaGreatDoorRM
import Derived.Test.YtfcnobcpnhfgmaaGreatDoorRL
import Derived.Test.YtfcnobcpnhfgmaaGreatDoorQG
import Derived.Test.YtfcnobcpnhfgmaaGreatDoorAAa
import Derived.Test.YtfcnobcpnhfgmaaGreatDoorQ3
namespace Go.Proofs.YtfcnobcpnhfgmaaGreatDoor
open Go.RowKit

theorem wp_letter {P : Program} {c : Code} {Q : Exit → Act → World → Prop} {a : Act} {w : World} (F : World → Prop) (h0 : F w) (h : ∀ W, F W → c.wp P Q a W) : c.wp P Q a w := h w h0

/-- What Decode's end asks of the value (k, n, S) that it has taken: is it right, and are its bytes those that came in (A, N, c)? -/
structure TailAsk (w : World) (k n : Int) (S : ByteArray) (A : Option Addr) (N c : Nat) (r q : Bool) : Prop where
  enc : ∀ W, Below w.heap.size w W → Calls Tryz.prog 47 #[.agg #[.int .i64 k, .int .i64 n, .string S]] W fun e w' => ∃ V, e = .returned (.tuple #[V, .bool r]) ∧ (r = true → ∀ W2, Below w'.heap.size w' W2 → Below w.heap.size w W2 → Calls Tryz.prog 18 #[V, .slice A N c] W2 fun e w3 => e = .returned (.bool q) ∧ Below W2.heap.size W2 w3) ∧ Below W.heap.size W w'


set_option maxHeartbeats 4000000 in
theorem rdecode_0 (x : Nat) (hx : x < 256) (b off m c : Nat) (hm : 1 ≤ m) (hmc : m + 1 ≤ c) (w : World) (r q : Bool) (ht : TailAsk w (x : Int) 0 ⟨#[]⟩ (some ⟨b, off, none⟩) (m + 1) c r q) (hcell : w.cell? ⟨b, off, none⟩ = some (.int .u8 (x : Int))) (h1 : ((x : Int) == 1) = false) (h5 : ((x : Int) == 5) = false) (h4 : ((x : Int) == 4) = false) (h2 : ((x : Int) == 2) = false) (h3 : ((x : Int) == 3) = false) :
    Calls Tryz.prog 120 #[.slice (some ⟨b, off, none⟩) (m + 1) c] w fun e w' => e = (if (r && q) = true then .returned (.tuple #[.agg #[.int .i64 (x : Int), .int .i64 0, .string ⟨#[]⟩], .bool true]) else .returned (.tuple #[.agg #[.int .i64 0, .int .i64 0, .string ⟨#[]⟩], .bool false])) ∧ Below w.heap.size w w' := by
  have HT := hid ht
  have HQ : Hid (r = false ∨ (r = true ∧ q = false) ∨ (r = true ∧ q = true)) := by unfold Hid; cases r <;> cases q <;> simp
  have HB := hid (below2 w)
  have hlt := cell_lt hcell
  clear ht
  go_enter Tryz.func120, Tryz.ntmps120
  go_upto_region 24 with (fail)
  refine wp_letter (fun W => Hid (Below w.heap.size w W ∧ w.heap.size + 1 < W.heap.size) ∧ (∀ j, W.frozen? ⟨w.heap.size, j, none⟩ = false) ∧ W.cell? ⟨w.heap.size, 0, none⟩ = some (.int .i64 0) ∧ W.cell? ⟨w.heap.size, 1, none⟩ = some (.int .i64 0) ∧ W.cell? ⟨w.heap.size, 2, none⟩ = some (.string ⟨#[]⟩) ∧ W.cell? ⟨w.heap.size + 1, 0, none⟩ = some (.int .i64 (x : Int)) ∧ W.cell? ⟨w.heap.size + 1, 1, none⟩ = some (.int .i64 0) ∧ W.cell? ⟨w.heap.size + 1, 2, none⟩ = some (.string ⟨#[]⟩)) ?_ (fun W hW => ?_)
  · exact ⟨hid ⟨HB.out _ _, by simp⟩, fun j => by simp, by simp, by simp, by simp, by simp, by simp, by simp⟩
  obtain ⟨hh, f0, a0, a1, a2, b0, b1, b2⟩ := hW
  obtain ⟨hbW, hzW⟩ := hh.out
  clear hh
  rcases HQ.out with rfl | ⟨rfl, rfl⟩ | ⟨rfl, rfl⟩
  · go_wp2_with (go_at_call 47; refine (HT.out.enc _ hbW).mono ?_; rintro e w2 ⟨V, rfl, -, hb2⟩; obtain ⟨hc2, hf2⟩ := bcell hb2; have p0 := hc2 w.heap.size 0 (by omega); have p1 := hc2 w.heap.size 1 (by omega); have p2 := hc2 w.heap.size 2 (by omega); have p3 : ∀ j, w2.frozen? ⟨w.heap.size, j, none⟩ = false := (fun j => (hf2 w.heap.size j (by omega)).trans (f0 j)); rw [a0] at p0; rw [a1] at p1; rw [a2] at p2)
    refine bodyPost_ret (v := .tuple #[.agg #[.int .i64 0, .int .i64 0, .string ⟨#[]⟩], .bool false]) (by simp [results, Tryz.results120, go_sem, cell_set_same, p0, p1, p2]) rfl ⟨rfl, ?_⟩
    iterate 3 (refine Below.setCell ?_ (by simp) _)
    exact hbW.trans (hb2.mono hbW.size)
  · go_wp2_with (first
      | (go_at_call 47; refine (HT.out.enc _ hbW).mono ?_; rintro e w2 ⟨V, rfl, hS, hb2⟩; have HS := hid (hS rfl); clear hS; have hbw2 := hbW.trans (hb2.mono hbW.size))
      | (go_at_call 18; refine (HS.out _ (Below.refl _ _) hbw2).mono ?_; rintro e w3 ⟨rfl, hb3⟩; have hb23 := hb2.trans (hb3.mono hb2.size); obtain ⟨hc2, hf2⟩ := bcell hb23; have p0 := hc2 w.heap.size 0 (by omega); have p1 := hc2 w.heap.size 1 (by omega); have p2 := hc2 w.heap.size 2 (by omega); have p3 : ∀ j, w3.frozen? ⟨w.heap.size, j, none⟩ = false := (fun j => (hf2 w.heap.size j (by omega)).trans (f0 j)); rw [a0] at p0; rw [a1] at p1; rw [a2] at p2))
    refine bodyPost_ret (v := .tuple #[.agg #[.int .i64 0, .int .i64 0, .string ⟨#[]⟩], .bool false]) (by simp [results, Tryz.results120, go_sem, cell_set_same, p0, p1, p2]) rfl ⟨rfl, ?_⟩
    iterate 3 (refine Below.setCell ?_ (by simp) _)
    exact hbW.trans (hb23.mono hbW.size)
  · go_wp2_with (first
      | (go_at_call 47; refine (HT.out.enc _ hbW).mono ?_; rintro e w2 ⟨V, rfl, hS, hb2⟩; have HS := hid (hS rfl); clear hS; have hbw2 := hbW.trans (hb2.mono hbW.size))
      | (go_at_call 18; refine (HS.out _ (Below.refl _ _) hbw2).mono ?_; rintro e w3 ⟨rfl, hb3⟩; have hb23 := hb2.trans (hb3.mono hb2.size); obtain ⟨hc2, hf2⟩ := bcell hb23; have p0 := hc2 w.heap.size 0 (by omega); have p1 := hc2 w.heap.size 1 (by omega); have p2 := hc2 w.heap.size 2 (by omega); have p3 : ∀ j, w3.frozen? ⟨w.heap.size, j, none⟩ = false := (fun j => (hf2 w.heap.size j (by omega)).trans (f0 j)); rw [a0] at p0; rw [a1] at p1; rw [a2] at p2))
    refine bodyPost_ret (v := .tuple #[.agg #[.int .i64 (x : Int), .int .i64 0, .string ⟨#[]⟩], .bool true]) (by simp [results, Tryz.results120, go_sem, cell_set_same, p0, p1, p2]) rfl ⟨rfl, ?_⟩
    iterate 3 (refine Below.setCell ?_ (by simp) _)
    exact hbW.trans (hb23.mono hbW.size)

set_option maxHeartbeats 4000000 in
theorem rdecode_4 (y : Nat) (hy : y < 256) (b off m c : Nat) (hm : 1 ≤ m) (hmc : m + 1 ≤ c) (w : World) (r q : Bool) (ht : TailAsk w 4 (y : Int) ⟨#[]⟩ (some ⟨b, off, none⟩) (m + 1) c r q) (hcell : w.cell? ⟨b, off, none⟩ = some (.int .u8 4)) (hcell1 : w.cell? ⟨b, off + 1, none⟩ = some (.int .u8 (y : Int))) :
    Calls Tryz.prog 120 #[.slice (some ⟨b, off, none⟩) (m + 1) c] w fun e w' => e = (if (r && q) = true then .returned (.tuple #[.agg #[.int .i64 4, .int .i64 (y : Int), .string ⟨#[]⟩], .bool true]) else .returned (.tuple #[.agg #[.int .i64 0, .int .i64 0, .string ⟨#[]⟩], .bool false])) ∧ Below w.heap.size w w' := by
  have HT := hid ht
  have HQ : Hid (r = false ∨ (r = true ∧ q = false) ∨ (r = true ∧ q = true)) := by unfold Hid; cases r <;> cases q <;> simp
  have HB := hid (below2 w)
  have hlt := cell_lt hcell
  clear ht
  go_enter Tryz.func120, Tryz.ntmps120
  go_upto_region 24 with (fail)
  refine wp_letter (fun W => Hid (Below w.heap.size w W ∧ w.heap.size + 1 < W.heap.size) ∧ (∀ j, W.frozen? ⟨w.heap.size, j, none⟩ = false) ∧ W.cell? ⟨w.heap.size, 0, none⟩ = some (.int .i64 0) ∧ W.cell? ⟨w.heap.size, 1, none⟩ = some (.int .i64 0) ∧ W.cell? ⟨w.heap.size, 2, none⟩ = some (.string ⟨#[]⟩) ∧ W.cell? ⟨w.heap.size + 1, 0, none⟩ = some (.int .i64 4) ∧ W.cell? ⟨w.heap.size + 1, 1, none⟩ = some (.int .i64 (y : Int)) ∧ W.cell? ⟨w.heap.size + 1, 2, none⟩ = some (.string ⟨#[]⟩)) ?_ (fun W hW => ?_)
  · exact ⟨hid ⟨HB.out _ _, by simp⟩, fun j => by simp, by simp, by simp, by simp, by simp, by simp, by simp⟩
  obtain ⟨hh, f0, a0, a1, a2, b0, b1, b2⟩ := hW
  obtain ⟨hbW, hzW⟩ := hh.out
  clear hh
  rcases HQ.out with rfl | ⟨rfl, rfl⟩ | ⟨rfl, rfl⟩
  · go_wp2_with (go_at_call 47; refine (HT.out.enc _ hbW).mono ?_; rintro e w2 ⟨V, rfl, -, hb2⟩; obtain ⟨hc2, hf2⟩ := bcell hb2; have p0 := hc2 w.heap.size 0 (by omega); have p1 := hc2 w.heap.size 1 (by omega); have p2 := hc2 w.heap.size 2 (by omega); have p3 : ∀ j, w2.frozen? ⟨w.heap.size, j, none⟩ = false := (fun j => (hf2 w.heap.size j (by omega)).trans (f0 j)); rw [a0] at p0; rw [a1] at p1; rw [a2] at p2)
    refine bodyPost_ret (v := .tuple #[.agg #[.int .i64 0, .int .i64 0, .string ⟨#[]⟩], .bool false]) (by simp [results, Tryz.results120, go_sem, cell_set_same, p0, p1, p2]) rfl ⟨rfl, ?_⟩
    iterate 3 (refine Below.setCell ?_ (by simp) _)
    exact hbW.trans (hb2.mono hbW.size)
  · go_wp2_with (first
      | (go_at_call 47; refine (HT.out.enc _ hbW).mono ?_; rintro e w2 ⟨V, rfl, hS, hb2⟩; have HS := hid (hS rfl); clear hS; have hbw2 := hbW.trans (hb2.mono hbW.size))
      | (go_at_call 18; refine (HS.out _ (Below.refl _ _) hbw2).mono ?_; rintro e w3 ⟨rfl, hb3⟩; have hb23 := hb2.trans (hb3.mono hb2.size); obtain ⟨hc2, hf2⟩ := bcell hb23; have p0 := hc2 w.heap.size 0 (by omega); have p1 := hc2 w.heap.size 1 (by omega); have p2 := hc2 w.heap.size 2 (by omega); have p3 : ∀ j, w3.frozen? ⟨w.heap.size, j, none⟩ = false := (fun j => (hf2 w.heap.size j (by omega)).trans (f0 j)); rw [a0] at p0; rw [a1] at p1; rw [a2] at p2))
    refine bodyPost_ret (v := .tuple #[.agg #[.int .i64 0, .int .i64 0, .string ⟨#[]⟩], .bool false]) (by simp [results, Tryz.results120, go_sem, cell_set_same, p0, p1, p2]) rfl ⟨rfl, ?_⟩
    iterate 3 (refine Below.setCell ?_ (by simp) _)
    exact hbW.trans (hb23.mono hbW.size)
  · go_wp2_with (first
      | (go_at_call 47; refine (HT.out.enc _ hbW).mono ?_; rintro e w2 ⟨V, rfl, hS, hb2⟩; have HS := hid (hS rfl); clear hS; have hbw2 := hbW.trans (hb2.mono hbW.size))
      | (go_at_call 18; refine (HS.out _ (Below.refl _ _) hbw2).mono ?_; rintro e w3 ⟨rfl, hb3⟩; have hb23 := hb2.trans (hb3.mono hb2.size); obtain ⟨hc2, hf2⟩ := bcell hb23; have p0 := hc2 w.heap.size 0 (by omega); have p1 := hc2 w.heap.size 1 (by omega); have p2 := hc2 w.heap.size 2 (by omega); have p3 : ∀ j, w3.frozen? ⟨w.heap.size, j, none⟩ = false := (fun j => (hf2 w.heap.size j (by omega)).trans (f0 j)); rw [a0] at p0; rw [a1] at p1; rw [a2] at p2))
    refine bodyPost_ret (v := .tuple #[.agg #[.int .i64 4, .int .i64 (y : Int), .string ⟨#[]⟩], .bool true]) (by simp [results, Tryz.results120, go_sem, cell_set_same, p0, p1, p2]) rfl ⟨rfl, ?_⟩
    iterate 3 (refine Below.setCell ?_ (by simp) _)
    exact hbW.trans (hb23.mono hbW.size)

set_option maxHeartbeats 4000000 in
theorem rdecode_5 (n : Int) (b off m c : Nat) (hm : 1 ≤ m) (hmc : m + 1 ≤ c) (w : World) (r q : Bool) (ht : TailAsk w 5 n ⟨#[]⟩ (some ⟨b, off, none⟩) (m + 1) c r q) (hcell : w.cell? ⟨b, off, none⟩ = some (.int .u8 5)) (HF : Hid (∀ W, Below w.heap.size w W → Calls Tryz.prog 154 #[.slice (some ⟨b, off + 1, none⟩) m (c - 1)] W fun e w' => e = .returned (.tuple #[.int .i64 n, .bool true]) ∧ W = w')) :
    Calls Tryz.prog 120 #[.slice (some ⟨b, off, none⟩) (m + 1) c] w fun e w' => e = (if (r && q) = true then .returned (.tuple #[.agg #[.int .i64 5, .int .i64 n, .string ⟨#[]⟩], .bool true]) else .returned (.tuple #[.agg #[.int .i64 0, .int .i64 0, .string ⟨#[]⟩], .bool false])) ∧ Below w.heap.size w w' := by
  have HT := hid ht
  have HQ : Hid (r = false ∨ (r = true ∧ q = false) ∨ (r = true ∧ q = true)) := by unfold Hid; cases r <;> cases q <;> simp
  have HB := hid (below2 w)
  have hlt := cell_lt hcell
  clear ht
  go_enter Tryz.func120, Tryz.ntmps120
  go_upto_region 24 with (go_at_call 154; refine (HF.out _ (HB.out _ _)).mono ?_; rintro e w' ⟨rfl, rfl⟩)
  refine wp_letter (fun W => Hid (Below w.heap.size w W ∧ w.heap.size + 1 < W.heap.size) ∧ (∀ j, W.frozen? ⟨w.heap.size, j, none⟩ = false) ∧ W.cell? ⟨w.heap.size, 0, none⟩ = some (.int .i64 0) ∧ W.cell? ⟨w.heap.size, 1, none⟩ = some (.int .i64 0) ∧ W.cell? ⟨w.heap.size, 2, none⟩ = some (.string ⟨#[]⟩) ∧ W.cell? ⟨w.heap.size + 1, 0, none⟩ = some (.int .i64 5) ∧ W.cell? ⟨w.heap.size + 1, 1, none⟩ = some (.int .i64 n) ∧ W.cell? ⟨w.heap.size + 1, 2, none⟩ = some (.string ⟨#[]⟩)) ?_ (fun W hW => ?_)
  · exact ⟨hid ⟨HB.out _ _, by simp⟩, fun j => by simp, by simp, by simp, by simp, by simp, by simp, by simp⟩
  obtain ⟨hh, f0, a0, a1, a2, b0, b1, b2⟩ := hW
  obtain ⟨hbW, hzW⟩ := hh.out
  clear hh
  rcases HQ.out with rfl | ⟨rfl, rfl⟩ | ⟨rfl, rfl⟩
  · go_wp2_with (go_at_call 47; refine (HT.out.enc _ hbW).mono ?_; rintro e w2 ⟨V, rfl, -, hb2⟩; obtain ⟨hc2, hf2⟩ := bcell hb2; have p0 := hc2 w.heap.size 0 (by omega); have p1 := hc2 w.heap.size 1 (by omega); have p2 := hc2 w.heap.size 2 (by omega); have p3 : ∀ j, w2.frozen? ⟨w.heap.size, j, none⟩ = false := (fun j => (hf2 w.heap.size j (by omega)).trans (f0 j)); rw [a0] at p0; rw [a1] at p1; rw [a2] at p2)
    refine bodyPost_ret (v := .tuple #[.agg #[.int .i64 0, .int .i64 0, .string ⟨#[]⟩], .bool false]) (by simp [results, Tryz.results120, go_sem, cell_set_same, p0, p1, p2]) rfl ⟨rfl, ?_⟩
    iterate 3 (refine Below.setCell ?_ (by simp) _)
    exact hbW.trans (hb2.mono hbW.size)
  · go_wp2_with (first
      | (go_at_call 47; refine (HT.out.enc _ hbW).mono ?_; rintro e w2 ⟨V, rfl, hS, hb2⟩; have HS := hid (hS rfl); clear hS; have hbw2 := hbW.trans (hb2.mono hbW.size))
      | (go_at_call 18; refine (HS.out _ (Below.refl _ _) hbw2).mono ?_; rintro e w3 ⟨rfl, hb3⟩; have hb23 := hb2.trans (hb3.mono hb2.size); obtain ⟨hc2, hf2⟩ := bcell hb23; have p0 := hc2 w.heap.size 0 (by omega); have p1 := hc2 w.heap.size 1 (by omega); have p2 := hc2 w.heap.size 2 (by omega); have p3 : ∀ j, w3.frozen? ⟨w.heap.size, j, none⟩ = false := (fun j => (hf2 w.heap.size j (by omega)).trans (f0 j)); rw [a0] at p0; rw [a1] at p1; rw [a2] at p2))
    refine bodyPost_ret (v := .tuple #[.agg #[.int .i64 0, .int .i64 0, .string ⟨#[]⟩], .bool false]) (by simp [results, Tryz.results120, go_sem, cell_set_same, p0, p1, p2]) rfl ⟨rfl, ?_⟩
    iterate 3 (refine Below.setCell ?_ (by simp) _)
    exact hbW.trans (hb23.mono hbW.size)
  · go_wp2_with (first
      | (go_at_call 47; refine (HT.out.enc _ hbW).mono ?_; rintro e w2 ⟨V, rfl, hS, hb2⟩; have HS := hid (hS rfl); clear hS; have hbw2 := hbW.trans (hb2.mono hbW.size))
      | (go_at_call 18; refine (HS.out _ (Below.refl _ _) hbw2).mono ?_; rintro e w3 ⟨rfl, hb3⟩; have hb23 := hb2.trans (hb3.mono hb2.size); obtain ⟨hc2, hf2⟩ := bcell hb23; have p0 := hc2 w.heap.size 0 (by omega); have p1 := hc2 w.heap.size 1 (by omega); have p2 := hc2 w.heap.size 2 (by omega); have p3 : ∀ j, w3.frozen? ⟨w.heap.size, j, none⟩ = false := (fun j => (hf2 w.heap.size j (by omega)).trans (f0 j)); rw [a0] at p0; rw [a1] at p1; rw [a2] at p2))
    refine bodyPost_ret (v := .tuple #[.agg #[.int .i64 5, .int .i64 n, .string ⟨#[]⟩], .bool true]) (by simp [results, Tryz.results120, go_sem, cell_set_same, p0, p1, p2]) rfl ⟨rfl, ?_⟩
    iterate 3 (refine Below.setCell ?_ (by simp) _)
    exact hbW.trans (hb23.mono hbW.size)

set_option maxHeartbeats 4000000 in
theorem rdecode_2 (S : ByteArray) (b off m c : Nat) (hm : 1 ≤ m) (hmc : m + 1 ≤ c) (w : World) (r q : Bool) (ht : TailAsk w 2 0 S (some ⟨b, off, none⟩) (m + 1) c r q) (hcell : w.cell? ⟨b, off, none⟩ = some (.int .u8 2)) (HU : Hid (∀ W, Below w.heap.size w W → Calls Tryz.prog 119 #[.slice (some ⟨b, off + 1, none⟩) m (c - 1)] W fun e w' => (∃ R ok, e = .returned (.tuple #[.string S, R, .bool ok])) ∧ Below W.heap.size W w')) :
    Calls Tryz.prog 120 #[.slice (some ⟨b, off, none⟩) (m + 1) c] w fun e w' => e = (if (r && q) = true then .returned (.tuple #[.agg #[.int .i64 2, .int .i64 0, .string S], .bool true]) else .returned (.tuple #[.agg #[.int .i64 0, .int .i64 0, .string ⟨#[]⟩], .bool false])) ∧ Below w.heap.size w w' := by
  have HT := hid ht
  have HQ : Hid (r = false ∨ (r = true ∧ q = false) ∨ (r = true ∧ q = true)) := by unfold Hid; cases r <;> cases q <;> simp
  have HB := hid (below2 w)
  have hlt := cell_lt hcell
  clear ht
  go_enter Tryz.func120, Tryz.ntmps120
  go_upto_region 24 with (go_at_call 119; refine (HU.out _ (HB.out _ _)).mono ?_; rintro e w1 ⟨⟨R, ok, rfl⟩, hb1⟩; obtain ⟨hc1, hf1⟩ := bcell hb1; have hz1 : w.heap.size + 1 < w1.heap.size := (by have := hb1.size; simp at this; omega))
  refine wp_letter (fun W => Hid (Below w.heap.size w W ∧ w.heap.size + 1 < W.heap.size) ∧ (∀ j, W.frozen? ⟨w.heap.size, j, none⟩ = false) ∧ W.cell? ⟨w.heap.size, 0, none⟩ = some (.int .i64 0) ∧ W.cell? ⟨w.heap.size, 1, none⟩ = some (.int .i64 0) ∧ W.cell? ⟨w.heap.size, 2, none⟩ = some (.string ⟨#[]⟩) ∧ W.cell? ⟨w.heap.size + 1, 0, none⟩ = some (.int .i64 2) ∧ W.cell? ⟨w.heap.size + 1, 1, none⟩ = some (.int .i64 0) ∧ W.cell? ⟨w.heap.size + 1, 2, none⟩ = some (.string S)) ?_ (fun W hW => ?_)
  · have g0 := hc1 w.heap.size 0 (by simp; omega)
    have g1 := hc1 w.heap.size 1 (by simp; omega)
    have g2 := hc1 w.heap.size 2 (by simp; omega)
    have g3 := hc1 (w.heap.size + 1) 0 (by simp)
    have g4 := hc1 (w.heap.size + 1) 1 (by simp)
    have g5 := hc1 (w.heap.size + 1) 2 (by simp)
    have g6 : ∀ j, w1.frozen? ⟨w.heap.size, j, none⟩ = false := fun j => (hf1 w.heap.size j (by simp; omega)).trans (by simp)
    simp at g0 g1 g2 g3 g4 g5
    refine ⟨hid ⟨((HB.out _ _).trans (hb1.mono (by simp; omega))).setCell (by simp) _, by simp; omega⟩, fun j => by simp [g6], (World.cell?_setCell_other _ _ _ _ (addr_ne (by omega))).trans g0, (World.cell?_setCell_other _ _ _ _ (addr_ne (by omega))).trans g1, (World.cell?_setCell_other _ _ _ _ (addr_ne (by omega))).trans g2, (World.cell?_setCell_other _ _ _ _ (addr_ne (by omega))).trans g3, (World.cell?_setCell_other _ _ _ _ (addr_ne (by omega))).trans g4, World.cell?_setCell_same _ _ _ g5⟩
  obtain ⟨hh, f0, a0, a1, a2, b0, b1, b2⟩ := hW
  obtain ⟨hbW, hzW⟩ := hh.out
  clear hh
  rcases HQ.out with rfl | ⟨rfl, rfl⟩ | ⟨rfl, rfl⟩
  · go_wp2_with (go_at_call 47; refine (HT.out.enc _ hbW).mono ?_; rintro e w2 ⟨V, rfl, -, hb2⟩; obtain ⟨hc2, hf2⟩ := bcell hb2; have p0 := hc2 w.heap.size 0 (by omega); have p1 := hc2 w.heap.size 1 (by omega); have p2 := hc2 w.heap.size 2 (by omega); have p3 : ∀ j, w2.frozen? ⟨w.heap.size, j, none⟩ = false := (fun j => (hf2 w.heap.size j (by omega)).trans (f0 j)); rw [a0] at p0; rw [a1] at p1; rw [a2] at p2)
    refine bodyPost_ret (v := .tuple #[.agg #[.int .i64 0, .int .i64 0, .string ⟨#[]⟩], .bool false]) (by simp [results, Tryz.results120, go_sem, cell_set_same, p0, p1, p2]) rfl ⟨rfl, ?_⟩
    iterate 3 (refine Below.setCell ?_ (by simp) _)
    exact hbW.trans (hb2.mono hbW.size)
  · go_wp2_with (first
      | (go_at_call 47; refine (HT.out.enc _ hbW).mono ?_; rintro e w2 ⟨V, rfl, hS, hb2⟩; have HS := hid (hS rfl); clear hS; have hbw2 := hbW.trans (hb2.mono hbW.size))
      | (go_at_call 18; refine (HS.out _ (Below.refl _ _) hbw2).mono ?_; rintro e w3 ⟨rfl, hb3⟩; have hb23 := hb2.trans (hb3.mono hb2.size); obtain ⟨hc2, hf2⟩ := bcell hb23; have p0 := hc2 w.heap.size 0 (by omega); have p1 := hc2 w.heap.size 1 (by omega); have p2 := hc2 w.heap.size 2 (by omega); have p3 : ∀ j, w3.frozen? ⟨w.heap.size, j, none⟩ = false := (fun j => (hf2 w.heap.size j (by omega)).trans (f0 j)); rw [a0] at p0; rw [a1] at p1; rw [a2] at p2))
    refine bodyPost_ret (v := .tuple #[.agg #[.int .i64 0, .int .i64 0, .string ⟨#[]⟩], .bool false]) (by simp [results, Tryz.results120, go_sem, cell_set_same, p0, p1, p2]) rfl ⟨rfl, ?_⟩
    iterate 3 (refine Below.setCell ?_ (by simp) _)
    exact hbW.trans (hb23.mono hbW.size)
  · go_wp2_with (first
      | (go_at_call 47; refine (HT.out.enc _ hbW).mono ?_; rintro e w2 ⟨V, rfl, hS, hb2⟩; have HS := hid (hS rfl); clear hS; have hbw2 := hbW.trans (hb2.mono hbW.size))
      | (go_at_call 18; refine (HS.out _ (Below.refl _ _) hbw2).mono ?_; rintro e w3 ⟨rfl, hb3⟩; have hb23 := hb2.trans (hb3.mono hb2.size); obtain ⟨hc2, hf2⟩ := bcell hb23; have p0 := hc2 w.heap.size 0 (by omega); have p1 := hc2 w.heap.size 1 (by omega); have p2 := hc2 w.heap.size 2 (by omega); have p3 : ∀ j, w3.frozen? ⟨w.heap.size, j, none⟩ = false := (fun j => (hf2 w.heap.size j (by omega)).trans (f0 j)); rw [a0] at p0; rw [a1] at p1; rw [a2] at p2))
    refine bodyPost_ret (v := .tuple #[.agg #[.int .i64 2, .int .i64 0, .string S], .bool true]) (by simp [results, Tryz.results120, go_sem, cell_set_same, p0, p1, p2]) rfl ⟨rfl, ?_⟩
    iterate 3 (refine Below.setCell ?_ (by simp) _)
    exact hbW.trans (hb23.mono hbW.size)

set_option maxHeartbeats 4000000 in
theorem rdecode_3 (S : ByteArray) (b off m c : Nat) (hm : 1 ≤ m) (hmc : m + 1 ≤ c) (w : World) (r q : Bool) (ht : TailAsk w 3 0 S (some ⟨b, off, none⟩) (m + 1) c r q) (hcell : w.cell? ⟨b, off, none⟩ = some (.int .u8 3)) (HU : Hid (∀ W, Below w.heap.size w W → Calls Tryz.prog 119 #[.slice (some ⟨b, off + 1, none⟩) m (c - 1)] W fun e w' => (∃ R ok, e = .returned (.tuple #[.string S, R, .bool ok])) ∧ Below W.heap.size W w')) :
    Calls Tryz.prog 120 #[.slice (some ⟨b, off, none⟩) (m + 1) c] w fun e w' => e = (if (r && q) = true then .returned (.tuple #[.agg #[.int .i64 3, .int .i64 0, .string S], .bool true]) else .returned (.tuple #[.agg #[.int .i64 0, .int .i64 0, .string ⟨#[]⟩], .bool false])) ∧ Below w.heap.size w w' := by
  have HT := hid ht
  have HQ : Hid (r = false ∨ (r = true ∧ q = false) ∨ (r = true ∧ q = true)) := by unfold Hid; cases r <;> cases q <;> simp
  have HB := hid (below2 w)
  have hlt := cell_lt hcell
  clear ht
  go_enter Tryz.func120, Tryz.ntmps120
  go_upto_region 24 with (go_at_call 119; refine (HU.out _ (HB.out _ _)).mono ?_; rintro e w1 ⟨⟨R, ok, rfl⟩, hb1⟩; obtain ⟨hc1, hf1⟩ := bcell hb1; have hz1 : w.heap.size + 1 < w1.heap.size := (by have := hb1.size; simp at this; omega))
  refine wp_letter (fun W => Hid (Below w.heap.size w W ∧ w.heap.size + 1 < W.heap.size) ∧ (∀ j, W.frozen? ⟨w.heap.size, j, none⟩ = false) ∧ W.cell? ⟨w.heap.size, 0, none⟩ = some (.int .i64 0) ∧ W.cell? ⟨w.heap.size, 1, none⟩ = some (.int .i64 0) ∧ W.cell? ⟨w.heap.size, 2, none⟩ = some (.string ⟨#[]⟩) ∧ W.cell? ⟨w.heap.size + 1, 0, none⟩ = some (.int .i64 3) ∧ W.cell? ⟨w.heap.size + 1, 1, none⟩ = some (.int .i64 0) ∧ W.cell? ⟨w.heap.size + 1, 2, none⟩ = some (.string S)) ?_ (fun W hW => ?_)
  · have g0 := hc1 w.heap.size 0 (by simp; omega)
    have g1 := hc1 w.heap.size 1 (by simp; omega)
    have g2 := hc1 w.heap.size 2 (by simp; omega)
    have g3 := hc1 (w.heap.size + 1) 0 (by simp)
    have g4 := hc1 (w.heap.size + 1) 1 (by simp)
    have g5 := hc1 (w.heap.size + 1) 2 (by simp)
    have g6 : ∀ j, w1.frozen? ⟨w.heap.size, j, none⟩ = false := fun j => (hf1 w.heap.size j (by simp; omega)).trans (by simp)
    simp at g0 g1 g2 g3 g4 g5
    refine ⟨hid ⟨((HB.out _ _).trans (hb1.mono (by simp; omega))).setCell (by simp) _, by simp; omega⟩, fun j => by simp [g6], (World.cell?_setCell_other _ _ _ _ (addr_ne (by omega))).trans g0, (World.cell?_setCell_other _ _ _ _ (addr_ne (by omega))).trans g1, (World.cell?_setCell_other _ _ _ _ (addr_ne (by omega))).trans g2, (World.cell?_setCell_other _ _ _ _ (addr_ne (by omega))).trans g3, (World.cell?_setCell_other _ _ _ _ (addr_ne (by omega))).trans g4, World.cell?_setCell_same _ _ _ g5⟩
  obtain ⟨hh, f0, a0, a1, a2, b0, b1, b2⟩ := hW
  obtain ⟨hbW, hzW⟩ := hh.out
  clear hh
  rcases HQ.out with rfl | ⟨rfl, rfl⟩ | ⟨rfl, rfl⟩
  · go_wp2_with (go_at_call 47; refine (HT.out.enc _ hbW).mono ?_; rintro e w2 ⟨V, rfl, -, hb2⟩; obtain ⟨hc2, hf2⟩ := bcell hb2; have p0 := hc2 w.heap.size 0 (by omega); have p1 := hc2 w.heap.size 1 (by omega); have p2 := hc2 w.heap.size 2 (by omega); have p3 : ∀ j, w2.frozen? ⟨w.heap.size, j, none⟩ = false := (fun j => (hf2 w.heap.size j (by omega)).trans (f0 j)); rw [a0] at p0; rw [a1] at p1; rw [a2] at p2)
    refine bodyPost_ret (v := .tuple #[.agg #[.int .i64 0, .int .i64 0, .string ⟨#[]⟩], .bool false]) (by simp [results, Tryz.results120, go_sem, cell_set_same, p0, p1, p2]) rfl ⟨rfl, ?_⟩
    iterate 3 (refine Below.setCell ?_ (by simp) _)
    exact hbW.trans (hb2.mono hbW.size)
  · go_wp2_with (first
      | (go_at_call 47; refine (HT.out.enc _ hbW).mono ?_; rintro e w2 ⟨V, rfl, hS, hb2⟩; have HS := hid (hS rfl); clear hS; have hbw2 := hbW.trans (hb2.mono hbW.size))
      | (go_at_call 18; refine (HS.out _ (Below.refl _ _) hbw2).mono ?_; rintro e w3 ⟨rfl, hb3⟩; have hb23 := hb2.trans (hb3.mono hb2.size); obtain ⟨hc2, hf2⟩ := bcell hb23; have p0 := hc2 w.heap.size 0 (by omega); have p1 := hc2 w.heap.size 1 (by omega); have p2 := hc2 w.heap.size 2 (by omega); have p3 : ∀ j, w3.frozen? ⟨w.heap.size, j, none⟩ = false := (fun j => (hf2 w.heap.size j (by omega)).trans (f0 j)); rw [a0] at p0; rw [a1] at p1; rw [a2] at p2))
    refine bodyPost_ret (v := .tuple #[.agg #[.int .i64 0, .int .i64 0, .string ⟨#[]⟩], .bool false]) (by simp [results, Tryz.results120, go_sem, cell_set_same, p0, p1, p2]) rfl ⟨rfl, ?_⟩
    iterate 3 (refine Below.setCell ?_ (by simp) _)
    exact hbW.trans (hb23.mono hbW.size)
  · go_wp2_with (first
      | (go_at_call 47; refine (HT.out.enc _ hbW).mono ?_; rintro e w2 ⟨V, rfl, hS, hb2⟩; have HS := hid (hS rfl); clear hS; have hbw2 := hbW.trans (hb2.mono hbW.size))
      | (go_at_call 18; refine (HS.out _ (Below.refl _ _) hbw2).mono ?_; rintro e w3 ⟨rfl, hb3⟩; have hb23 := hb2.trans (hb3.mono hb2.size); obtain ⟨hc2, hf2⟩ := bcell hb23; have p0 := hc2 w.heap.size 0 (by omega); have p1 := hc2 w.heap.size 1 (by omega); have p2 := hc2 w.heap.size 2 (by omega); have p3 : ∀ j, w3.frozen? ⟨w.heap.size, j, none⟩ = false := (fun j => (hf2 w.heap.size j (by omega)).trans (f0 j)); rw [a0] at p0; rw [a1] at p1; rw [a2] at p2))
    refine bodyPost_ret (v := .tuple #[.agg #[.int .i64 3, .int .i64 0, .string S], .bool true]) (by simp [results, Tryz.results120, go_sem, cell_set_same, p0, p1, p2]) rfl ⟨rfl, ?_⟩
    iterate 3 (refine Below.setCell ?_ (by simp) _)
    exact hbW.trans (hb23.mono hbW.size)

end Go.Proofs.YtfcnobcpnhfgmaaGreatDoor
