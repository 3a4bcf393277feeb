/- strconv.ParseUint where it fails, and float.parse at every text of at most a thousand bytes. Conditions: strconv.ErrSyntax and strconv.ErrRange hold some error. -/
import Derived.Test.YtgahljgmgdjjdaaGreatDoorFF
import Derived.Test.YtgahljgmgdjjdaaGreatDoorVL
import Derived.Test.YtgahljgmgdjjdaaGreatDoorShelf
namespace Go.Proofs.YtgahljgmgdjjdaaGreatDoor
open Go.RowKit

set_option maxHeartbeats 400000 in
set_option maxRecDepth 100000 in
theorem parseIn_empty (s : ByteArray) (hne : s.toList.isEmpty = true) (w : World) :
    Calls Tryz.prog 105 #[.string s, .int .i64 16, .int .i64 64] w fun e w' => e = .returned (.tuple #[.int .u64 0, .iface 117 (.int .i64 2)]) ∧ w = w' := by
  go_enter Tryz.func105, Tryz.ntmps105
  go_wp2
  go_ret2
  exact ⟨rfl, rfl⟩

set_option maxHeartbeats 1000000 in
theorem parseUint_bad (s : ByteArray) (hs : s.size ≤ 1000) (hbad : s.toList.isEmpty = true ∨ hexGo s.data.toList 0 = .syn ∨ hexGo s.data.toList 0 = .rng) (w : World) (he : ErrsIn w) :
    Calls Tryz.prog 101 #[.string s, .int .i64 16, .int .i64 64] w fun e w' => (∃ u N : Nat, e = .returned (.tuple #[.int .u64 u, .iface 118 (.pointer (some ⟨N, 0, none⟩))])) ∧ Below w.heap.size w w' := by
  have key : ∃ u k : Nat, (k = 1 ∨ k = 2) ∧ (Calls Tryz.prog 105 #[.string s, .int .i64 16, .int .i64 64] w fun e w' => e = .returned (.tuple #[.int .u64 u, .iface 117 (.int .i64 k)]) ∧ Below w.heap.size w w') := by
    by_cases hne : s.toList.isEmpty = true
    · refine ⟨0, 2, Or.inr rfl, (parseIn_empty s hne w).mono ?_⟩
      rintro e w' ⟨rfl, rfl⟩
      exact ⟨rfl, Below.refl _ _⟩
    · have h := parseIn s (by omega) (by simpa using hne) w
      rcases hbad with hb | hb | hb
      · exact absurd hb hne
      · rw [hb] at h
        exact ⟨0, 2, Or.inr rfl, h⟩
      · rw [hb] at h
        exact ⟨18446744073709551615, 1, Or.inl rfl, h⟩
  obtain ⟨u, k, hk, hcall⟩ := key
  have HC := hid hcall
  have HT : Hid (∀ W, Below w.heap.size w W → Calls Tryz.prog 90 #[.string ⟨#[80, 97, 114, 115, 101, 85, 105, 110, 116]⟩, .string s, .int .i64 16, .int .i64 64, .iface 117 (.int .i64 k)] W fun e w' => ∃ N : Nat, e = .returned (.iface 118 (.pointer (some ⟨N, 0, none⟩))) ∧ Below w.heap.size w w') := fun W hW => by
    obtain ⟨⟨t, p, h1⟩, ⟨t', p', h2⟩⟩ := he.below hW
    rcases hk with rfl | rfl
    · exact (Tryz.strconv_toError_range _ s 16 64 (.iface t' p') W (by omega) h2 (Or.inr ⟨t', p', rfl⟩)).mono fun e w' ⟨N, h, _, _, hb⟩ => ⟨N, h, hW.trans (hb.mono hW.size)⟩
    · exact (Tryz.strconv_toError_syntax _ s 16 64 (.iface t p) W (by omega) h1 (Or.inr ⟨t, p, rfl⟩)).mono fun e w' ⟨N, h, _, _, hb⟩ => ⟨N, h, hW.trans (hb.mono hW.size)⟩
  clear hcall hbad he hs hk
  go_enter Tryz.func101, Tryz.ntmps101
  go_wp2_with (first | (go_at_call 105; refine HC.out.mono ?_; rintro e w1 ⟨rfl, hb1⟩) | (go_at_call 90; refine (HT.out _ (by assumption)).mono ?_; rintro e w2 ⟨N, rfl, hb2⟩))
  go_ret2
  exact ⟨⟨u, _, rfl⟩, by assumption⟩

end Go.Proofs.YtgahljgmgdjjdaaGreatDoor
