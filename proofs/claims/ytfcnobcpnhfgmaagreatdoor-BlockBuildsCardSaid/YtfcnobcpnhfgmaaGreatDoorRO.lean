/- The document's Decode of a number, of nothing, and of what isn't a float. Conditions: as each theorem names them. -/
import Derived.Test.YtfcnobcpnhfgmaaGreatDoorRN
namespace Go.Proofs.YtfcnobcpnhfgmaaGreatDoor
open Go.RowKit

/-- The number that a row of bytes spells, in 64 bits. -/
def fmB (l : List UInt8) : Nat := l.foldl (fun r x => (r * 256 + x.toNat) % 18446744073709551616) 0
theorem fmB_snoc (l : List UInt8) (x : UInt8) : fmB (l ++ [x]) = (fmB l * 256 + x.toNat) % 18446744073709551616 := by unfold fmB; rw [List.foldl_append]; rfl
theorem fmB_lt (l : List UInt8) : fmB l < 18446744073709551616 := by
  rcases List.eq_nil_or_concat l with h | ⟨l', x, h⟩
  · rw [h]; decide
  · rw [h, List.concat_eq_append, fmB_snoc]; exact Nat.mod_lt _ (by decide)
theorem fmB_fold (l : List UInt8) : fmB l = foldB l % 18446744073709551616 := by
  induction h : l.length generalizing l with
  | zero =>
    have : l = [] := List.length_eq_zero_iff.1 h
    subst this; rfl
  | succ n ih =>
    obtain ⟨l', y, rfl⟩ : ∃ l' y, l = l' ++ [y] := ⟨l.dropLast, l.getLast (by intro e; rw [e] at h; simp at h), (List.dropLast_concat_getLast _).symm⟩
    have hl : l'.length = n := by simpa using h
    rw [fmB_snoc, foldB_snoc, ih l' hl]
    omega
theorem take_getD (l : List UInt8) (k : Nat) (h : k < l.length) : l.take (k + 1) = l.take k ++ [l.getD k 0] := by
  rw [List.take_succ_eq_append_getElem h, List.getD_eq_getElem?_getD, List.getElem?_eq_getElem h]
  rfl
theorem fm_step (u x : Nat) : IntKind.u64.wrap (IntKind.u64.wrap ((u : Int) * 256) + IntKind.u64.wrap (x : Int)) = (((u * 256 + x) % 18446744073709551616 : Nat) : Int) := by
  rw [IntKind.wrap_u64, IntKind.wrap_u64, IntKind.wrap_u64]; omega
theorem fm_down (u : Nat) (h : u < 18446744073709551616) : wrap64 (IntKind.u64.wrap ((u : Int) - 9223372036854775808)) = (u : Int) - 9223372036854775808 := by
  rw [IntKind.wrap_u64]
  unfold wrap64
  omega

set_option maxHeartbeats 1000000 in
theorem rdecode_short {A : Option Addr} (n c : Nat) (hn : n < 2) (w : World) :
    Calls Tryz.prog 120 #[.slice A n c] w fun e w' => e = .returned (.tuple #[.agg #[.int .i64 0, .int .i64 0, .string ⟨#[]⟩], .bool false]) ∧ Below w.heap.size w w' := by
  have HB := hid (below_new w)
  rcases (show n = 0 ∨ n = 1 by omega) with rfl | rfl
  all_goals
    go_enter Tryz.func120, Tryz.ntmps120
    go_wp2
    refine bodyPost_ret (v := .tuple #[.agg #[.int .i64 0, .int .i64 0, .string ⟨#[]⟩], .bool false]) (by simp [results, Tryz.results120, go_sem]) rfl ⟨rfl, ?_⟩
    repeat (first | exact HB.out _ | refine Below.setCell ?_ (by simp) _)

set_option maxHeartbeats 1000000 in
theorem rdecode_5_no (b off m c : Nat) (hm : 1 ≤ m) (hmc : m + 1 ≤ c) (w : World) (hcell : w.cell? ⟨b, off, none⟩ = some (.int .u8 5)) (HF : Hid (∀ W, Below w.heap.size w W → Calls Tryz.prog 154 #[.slice (some ⟨b, off + 1, none⟩) m (c - 1)] W fun e w' => e = .returned (.tuple #[.int .i64 0, .bool false]) ∧ W = w')) :
    Calls Tryz.prog 120 #[.slice (some ⟨b, off, none⟩) (m + 1) c] w fun e w' => e = .returned (.tuple #[.agg #[.int .i64 0, .int .i64 0, .string ⟨#[]⟩], .bool false]) ∧ Below w.heap.size w w' := by
  have HB := hid (below2 w)
  have hlt := cell_lt hcell
  go_enter Tryz.func120, Tryz.ntmps120
  go_wp2_with (go_at_call 154; refine (HF.out _ (HB.out _ _)).mono ?_; rintro e w' ⟨rfl, rfl⟩)
  refine bodyPost_ret (v := .tuple #[.agg #[.int .i64 0, .int .i64 0, .string ⟨#[]⟩], .bool false]) (by simp [results, Tryz.results120, go_sem]) rfl ⟨rfl, ?_⟩
  repeat (first | exact HB.out _ _ | refine Below.setCell ?_ (by simp) _)

set_option maxHeartbeats 4000000 in
theorem rdecode_1 (l : List UInt8) (U : Nat) (hU : fmB l = U) (b off m c : Nat) (hm : 1 ≤ m) (hmc : m + 1 ≤ c) (w : World) (r q : Bool) (ht : TailAsk w 1 ((U : Int) - 9223372036854775808) ⟨#[]⟩ (some ⟨b, off, none⟩) (m + 1) c r q) (hlm : l.length = m) (hm1000 : m ≤ 4000) (hcell : w.cell? ⟨b, off, none⟩ = some (.int .u8 1)) (hh : Holds w b (off + 1) l) :
    Calls Tryz.prog 120 #[.slice (some ⟨b, off, none⟩) (m + 1) c] w fun e w' => e = (if (r && q) = true then .returned (.tuple #[.agg #[.int .i64 1, .int .i64 ((U : Int) - 9223372036854775808), .string ⟨#[]⟩], .bool true]) else .returned (.tuple #[.agg #[.int .i64 0, .int .i64 0, .string ⟨#[]⟩], .bool false])) ∧ Below w.heap.size w w' := by
  have HT := hid ht
  have HQ : Hid (r = false ∨ (r = true ∧ q = false) ∨ (r = true ∧ q = true)) := by unfold Hid; cases r <;> cases q <;> simp
  have HB := hid (below2 w)
  have hlt := cell_lt hcell
  have HH := hid hh
  have HLm := hid hlm
  have HUU := hid hU
  have HUl : Hid (U < 18446744073709551616) := by rw [← hU]; exact fmB_lt l
  clear ht hh hlm hU
  go_enter Tryz.func120, Tryz.ntmps120
  go_wp2
  go_loop [6, 7] (fun vu vi => ∃ k u : Nat, k ≤ m ∧ vi = .int .i64 k ∧ vu = .int .u64 u ∧ u = fmB (l.take k)) (fun _ vi => m - (intOf vi).toNat)
  case atStart => exact ⟨0, 0, Nat.zero_le _, rfl, rfl, rfl⟩
  case round =>
    obtain ⟨k, u, hk, rfl, rfl, hu⟩ := hrel
    have HU := hid hu
    clear hu
    by_cases hkm : k < m
    · have g := HH.out k (by rw [HLm.out]; exact hkm)
      obtain ⟨x, hx⟩ : ∃ x, (l.getD k 0).toNat = x := ⟨_, rfl⟩
      rw [hx] at g
      have hst := fm_step u x
      obtain ⟨v, hv⟩ : ∃ v, (u * 256 + x) % 18446744073709551616 = v := ⟨_, rfl⟩
      rw [hv] at hst
      have HV : Hid (v = fmB (l.take (k + 1))) := by
        unfold Hid
        rw [take_getD l k (by rw [HLm.out]; exact hkm), fmB_snoc, ← HU.out, hx, hv]
      clear hx hv
      go_wp2
      go_round
      case rel => exact ⟨k + 1, v, by omega, by go_num, by first | rfl | go_num, HV.out⟩
      case measure => simp [intOf]; omega
    · obtain rfl : k = m := by omega
      have hun : (u : Int) = (U : Int) := by rw [HU.out, List.take_of_length_le (by rw [HLm.out]; exact Nat.le_refl _), ← HUU.out]
      obtain rfl : u = U := by omega
      have hdn := fm_down u HUl.out
      clear hun
      go_upto_region 24 with (fail)
      refine wp_letter (fun W => Hid (Below w.heap.size w W ∧ w.heap.size + 1 < W.heap.size) ∧ (∀ j, W.frozen? ⟨w.heap.size, j, none⟩ = false) ∧ W.cell? ⟨w.heap.size, 0, none⟩ = some (.int .i64 0) ∧ W.cell? ⟨w.heap.size, 1, none⟩ = some (.int .i64 0) ∧ W.cell? ⟨w.heap.size, 2, none⟩ = some (.string ⟨#[]⟩) ∧ W.cell? ⟨w.heap.size + 1, 0, none⟩ = some (.int .i64 1) ∧ W.cell? ⟨w.heap.size + 1, 1, none⟩ = some (.int .i64 ((u : Int) - 9223372036854775808)) ∧ W.cell? ⟨w.heap.size + 1, 2, none⟩ = some (.string ⟨#[]⟩)) ?_ (fun W hW => ?_)
      · exact ⟨hid ⟨HB.out _ _, by simp⟩, fun j => by simp, by simp, by simp, by simp, by simp, by simp, by simp⟩
      obtain ⟨hh, f0, a0, a1, a2, b0, b1, b2⟩ := hW
      obtain ⟨hbW, hzW⟩ := hh.out
      clear hh
      rcases HQ.out with rfl | ⟨rfl, rfl⟩ | ⟨rfl, rfl⟩
      · go_wp2_with (go_at_call 47; refine (HT.out.enc _ hbW).mono ?_; rintro e w2 ⟨V, rfl, -, hb2⟩; obtain ⟨hc2, hf2⟩ := bcell hb2; have p0 := hc2 w.heap.size 0 (by omega); have p1 := hc2 w.heap.size 1 (by omega); have p2 := hc2 w.heap.size 2 (by omega); have p3 : ∀ j, w2.frozen? ⟨w.heap.size, j, none⟩ = false := (fun j => (hf2 w.heap.size j (by omega)).trans (f0 j)); rw [a0] at p0; rw [a1] at p1; rw [a2] at p2)
        refine bodyPost_ret (v := .tuple #[.agg #[.int .i64 0, .int .i64 0, .string ⟨#[]⟩], .bool false]) (by simp [results, Tryz.results120, go_sem, cell_set_same, p0, p1, p2]) rfl ⟨rfl, ?_⟩
        iterate 3 (refine Below.setCell ?_ (by simp) _)
        exact hbW.trans (hb2.mono hbW.size)
      · go_wp2_with (first
          | (go_at_call 47; refine (HT.out.enc _ hbW).mono ?_; rintro e w2 ⟨V, rfl, hS, hb2⟩; have HS := hid (hS rfl); clear hS; have hbw2 := hbW.trans (hb2.mono hbW.size))
          | (go_at_call 18; refine (HS.out _ (Below.refl _ _) hbw2).mono ?_; rintro e w3 ⟨rfl, hb3⟩; have hb23 := hb2.trans (hb3.mono hb2.size); obtain ⟨hc2, hf2⟩ := bcell hb23; have p0 := hc2 w.heap.size 0 (by omega); have p1 := hc2 w.heap.size 1 (by omega); have p2 := hc2 w.heap.size 2 (by omega); have p3 : ∀ j, w3.frozen? ⟨w.heap.size, j, none⟩ = false := (fun j => (hf2 w.heap.size j (by omega)).trans (f0 j)); rw [a0] at p0; rw [a1] at p1; rw [a2] at p2))
        refine bodyPost_ret (v := .tuple #[.agg #[.int .i64 0, .int .i64 0, .string ⟨#[]⟩], .bool false]) (by simp [results, Tryz.results120, go_sem, cell_set_same, p0, p1, p2]) rfl ⟨rfl, ?_⟩
        iterate 3 (refine Below.setCell ?_ (by simp) _)
        exact hbW.trans (hb23.mono hbW.size)
      · go_wp2_with (first
          | (go_at_call 47; refine (HT.out.enc _ hbW).mono ?_; rintro e w2 ⟨V, rfl, hS, hb2⟩; have HS := hid (hS rfl); clear hS; have hbw2 := hbW.trans (hb2.mono hbW.size))
          | (go_at_call 18; refine (HS.out _ (Below.refl _ _) hbw2).mono ?_; rintro e w3 ⟨rfl, hb3⟩; have hb23 := hb2.trans (hb3.mono hb2.size); obtain ⟨hc2, hf2⟩ := bcell hb23; have p0 := hc2 w.heap.size 0 (by omega); have p1 := hc2 w.heap.size 1 (by omega); have p2 := hc2 w.heap.size 2 (by omega); have p3 : ∀ j, w3.frozen? ⟨w.heap.size, j, none⟩ = false := (fun j => (hf2 w.heap.size j (by omega)).trans (f0 j)); rw [a0] at p0; rw [a1] at p1; rw [a2] at p2))
        refine bodyPost_ret (v := .tuple #[.agg #[.int .i64 1, .int .i64 ((u : Int) - 9223372036854775808), .string ⟨#[]⟩], .bool true]) (by simp [results, Tryz.results120, go_sem, cell_set_same, p0, p1, p2]) rfl ⟨rfl, ?_⟩
        iterate 3 (refine Below.setCell ?_ (by simp) _)
        exact hbW.trans (hb23.mono hbW.size)

end Go.Proofs.YtfcnobcpnhfgmaaGreatDoor
