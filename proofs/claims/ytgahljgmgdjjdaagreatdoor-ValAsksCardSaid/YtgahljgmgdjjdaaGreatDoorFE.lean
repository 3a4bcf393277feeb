/- strconv.ParseUint to the base 16 and of 64 bits, for every text that isn't empty. -/
import Derived.Test.YtgahljgmgdjjdaaGreatDoorFD
import Derived.Lib.AtoiErrMem
import Derived.Lib.Strings
namespace Go.Proofs.YtgahljgmgdjjdaaGreatDoor
open Go.RowKit

set_option maxHeartbeats 400000 in
theorem lower_any (c : Nat) (h : c < 256) (w : World) :
    Calls Tryz.prog 119 #[.int .u8 c] w fun e w' => e = .returned (.int .u8 (lowN c : Nat)) ∧ w = w' := by
  have hb : bits .or .u8 (c : Int) 32 = (lowN c : Nat) := u8_or_nat c 32 h (by omega)
  go_enter Tryz.func119, Tryz.ntmps119
  go_wp2
  go_ret
  exact ⟨rfl, rfl⟩

theorem conv_bytes (s : ByteArray) (w : World) : ∃ cap W1, (convert 9 26 (.string s)).run Tryz.prog w = .ok (.slice (some ⟨w.heap.size, 0, none⟩) s.size cap) W1 ∧
    (∀ j, j < s.size → W1.cell? ⟨w.heap.size, j, none⟩ = some (.int .u8 ((s.data.toList.getD j 0).toNat : Int))) ∧ Below w.heap.size w W1 :=
  ⟨_, _, Lib.run_convert_string_bytes w 9 26 5 s Tryz.underlying9 Tryz.underlying26 Tryz.underlying5, fun j hj => Lib.bytesWorld_cell w 5 s j hj, Lib.bytesWorld_below w 5 s⟩

def hexEnd : HexR → Ending
  | .ok n => .returned (.tuple #[.int .u64 n, .nilIface])
  | .syn => .returned (.tuple #[.int .u64 0, .iface 117 (.int .i64 2)])
  | .rng => .returned (.tuple #[.int .u64 18446744073709551615, .iface 117 (.int .i64 1)])

def PInv (s : ByteArray) (R : HexR) (vu vn vi : Value) : Prop :=
  ∃ (k : Nat) (acc : Int), k ≤ s.size ∧ 0 ≤ acc ∧ acc < 18446744073709551616 ∧ vu = .bool false ∧ vn = .int .u64 acc ∧ vi = .int .i64 k ∧ hexGo (s.data.toList.drop k) acc.toNat = R

set_option maxHeartbeats 1000000 in
set_option maxRecDepth 100000 in
theorem parseIn (s : ByteArray) (hs : s.size ≤ 9223372036854775807) (hne : s.toList.isEmpty = false) (w : World) :
    Calls Tryz.prog 105 #[.string s, .int .i64 16, .int .i64 64] w fun e w' => e = hexEnd (hexGo s.data.toList 0) ∧ Below w.heap.size w w' := by
  obtain ⟨cap, W1, hcv, hcells, hbel⟩ := conv_bytes s w
  have HC := hid hcells
  clear hcells
  have hmx : IntKind.u64.wrap (IntKind.u64.wrap 18446744073709551616 - 1) = 18446744073709551615 := by rfl
  obtain ⟨R, hR⟩ : ∃ R, hexGo s.data.toList 0 = R := ⟨_, rfl⟩
  rw [hR]
  have HR := hid hR
  clear hR
  go_enter Tryz.func105, Tryz.ntmps105
  go_wp2_with fail
  go_loop [12, 13, 101] (fun vu vn vi => PInv s R vu vn vi) (fun _ _ vi => s.size - (intOf vi).toNat)
  case atStart => exact ⟨0, 0, by omega, by omega, by omega, rfl, rfl, rfl, HR.out⟩
  case round =>
    obtain ⟨k, acc, hk, hacc0, hacc, rfl, rfl, rfl, hgo⟩ := hrel
    by_cases hlt : k < s.size
    · have hstep := hexGo_drop s.data.toList k acc.toNat (by simpa using hlt)
      have hcell := HC.out k hlt
      rw [hgo] at hstep
      clear hgo hcv hmx
      have HS := hid hstep
      clear hstep
      obtain ⟨c, hc⟩ : ∃ c, s.data.toList.getD k 0 = c := ⟨_, rfl⟩
      rw [hc] at hcell
      have HS2 : Hid (R = (match hexD c with
        | none => .syn
        | some d => if 16 ≤ d then .syn else if 1152921504606846976 ≤ acc.toNat then .rng else hexGo (s.data.toList.drop (k + 1)) (acc.toNat * 16 + d))) := by rw [← hc]; exact HS.out
      clear HS hc
      have h256 : c.toNat < 256 := c.toNat_lt
      obtain ⟨l1, l2, l3⟩ := lowN_le c.toNat h256
      by_cases hd : 48 ≤ c.toNat ∧ c.toNat ≤ 57
      · obtain ⟨d1, d2⟩ := hd
        have HD : Hid (hexD c = some (c.toNat - 48)) := by unfold hexD; rw [if_pos ⟨d1, d2⟩]; exact rfl
        by_cases ha : 1152921504606846976 ≤ acc
        · have HRE : Hid (R = .rng) := by have := HS2.out; rw [HD.out] at this; simp only at this; rw [if_neg (by omega), if_pos (by omega)] at this; exact this
          go_wp2_with (go_at_call 119; refine (lower_any _ h256 _).mono ?_; rintro e w' ⟨rfl, rfl⟩)
          go_ret2
          rw [HRE.out]
          exact ⟨rfl, hbel⟩
        · have HRE : Hid (hexGo (s.data.toList.drop (k + 1)) (acc.toNat * 16 + (c.toNat - 48)) = R) := by have := HS2.out; rw [HD.out] at this; simp only at this; rw [if_neg (by omega), if_neg (by omega)] at this; exact this.symm
          go_wp2_with (go_at_call 119; refine (lower_any _ h256 _).mono ?_; rintro e w' ⟨rfl, rfl⟩)
          go_round
          case rel => exact ⟨k + 1, acc * 16 + (c.toNat - 48), by omega, by omega, by omega, rfl, rfl, by go_num, by rw [← HRE.out]; congr 1; omega⟩
          case measure => simp [intOf]; omega
      · have h95 : lowN c.toNat ≤ 122 → ¬ c.toNat = 95 := by intro g e; rw [e, lowN_95] at g; omega
        by_cases hl : 97 ≤ lowN c.toNat ∧ lowN c.toNat ≤ 122
        · obtain ⟨g1, g2⟩ := hl
          have h95' := h95 g2
          have HD : Hid (hexD c = some (lowN c.toNat - 87)) := by unfold hexD; rw [if_neg hd, if_pos ⟨g1, g2⟩]; exact rfl
          clear h95
          obtain ⟨lo, hlo⟩ : ∃ lo, lowN c.toNat = lo := ⟨_, rfl⟩
          have HL : Hid (∀ W, Calls Tryz.prog 119 #[.int .u8 c.toNat] W fun e w' => e = .returned (.int .u8 lo) ∧ W = w') := fun W => by rw [← hlo]; exact lower_any _ h256 W
          rw [hlo] at l1 l2 l3 g1 g2 HD
          clear hlo
          by_cases h16 : 103 ≤ lo
          · have HRE : Hid (R = .syn) := by have := HS2.out; rw [HD.out] at this; simp only at this; rw [if_pos (by omega)] at this; exact this
            by_cases d1 : 48 ≤ c.toNat
            · have d2 : ¬ c.toNat ≤ 57 := fun d2 => hd ⟨d1, d2⟩
              clear hd
              go_wp2_with (go_at_call 119; refine (HL.out _).mono ?_; rintro e w' ⟨rfl, rfl⟩)
              go_ret2
              rw [HRE.out]
              exact ⟨rfl, hbel⟩
            · exfalso; omega
          · by_cases ha : 1152921504606846976 ≤ acc
            · have HRE : Hid (R = .rng) := by have := HS2.out; rw [HD.out] at this; simp only at this; rw [if_neg (by omega), if_pos (by omega)] at this; exact this
              by_cases d1 : 48 ≤ c.toNat
              · have d2 : ¬ c.toNat ≤ 57 := fun d2 => hd ⟨d1, d2⟩
                clear hd
                go_wp2_with (go_at_call 119; refine (HL.out _).mono ?_; rintro e w' ⟨rfl, rfl⟩)
                go_ret2
                rw [HRE.out]
                exact ⟨rfl, hbel⟩
              · exfalso; omega
            · have HRE : Hid (hexGo (s.data.toList.drop (k + 1)) (acc.toNat * 16 + (lo - 87)) = R) := by have := HS2.out; rw [HD.out] at this; simp only at this; rw [if_neg (by omega), if_neg (by omega)] at this; exact this.symm
              by_cases d1 : 48 ≤ c.toNat
              · have d2 : ¬ c.toNat ≤ 57 := fun d2 => hd ⟨d1, d2⟩
                clear hd
                go_wp2_with (go_at_call 119; refine (HL.out _).mono ?_; rintro e w' ⟨rfl, rfl⟩)
                go_round
                case rel => exact ⟨k + 1, acc * 16 + (lo - 97 + 10), by omega, by omega, by omega, rfl, rfl, by go_num, by rw [← HRE.out]; congr 1; omega⟩
                case measure => simp [intOf]; omega
              · exfalso; omega
        · have HRE : Hid (R = .syn) := by have := HS2.out; unfold hexD at this; rw [if_neg hd, if_neg hl] at this; exact this
          clear h95
          obtain ⟨lo, hlo⟩ : ∃ lo, lowN c.toNat = lo := ⟨_, rfl⟩
          have HL : Hid (∀ W, Calls Tryz.prog 119 #[.int .u8 c.toNat] W fun e w' => e = .returned (.int .u8 lo) ∧ W = w') := fun W => by rw [← hlo]; exact lower_any _ h256 W
          rw [hlo] at l1 l2 l3 hl
          clear hlo
          have hd1 : 48 ≤ c.toNat → ¬ c.toNat ≤ 57 := fun a b => hd ⟨a, b⟩
          have hl1 : 97 ≤ lo → ¬ lo ≤ 122 := fun a b => hl ⟨a, b⟩
          clear hd hl
          by_cases d1 : 48 ≤ c.toNat
          · have d2 := hd1 d1
            clear hd1
            by_cases e95 : c.toNat = 95
            · have hcell' : W1.cell? ⟨w.heap.size, k, none⟩ = some (.int .u8 95) := by rw [hcell, e95]; rfl
              have HL9 : Hid (∀ W, Calls Tryz.prog 119 #[.int .u8 95] W fun e w' => e = .returned (.int .u8 127) ∧ W = w') := fun W => by have := lower_any 95 (by omega) W; rw [lowN_95] at this; exact this
              clear hcell HL l1 l2 l3 hl1 e95 HS2 d1 d2
              go_wp2_with (go_at_call 119; refine (HL9.out _).mono ?_; rintro e w' ⟨rfl, rfl⟩)
              all_goals go_ret2
              all_goals rw [HRE.out]
              all_goals exact ⟨rfl, hbel⟩
            · have f95 : ((c.toNat : Int) == 95) = false := by simpa using fun h => e95 (by omega)
              clear e95
              by_cases g1 : 97 ≤ lo
              · have g2 := hl1 g1
                clear hl1
                go_wp2_with (go_at_call 119; refine (HL.out _).mono ?_; rintro e w' ⟨rfl, rfl⟩)
                all_goals go_ret2
                all_goals rw [HRE.out]
                all_goals exact ⟨rfl, hbel⟩
              · clear hl1
                go_wp2_with (go_at_call 119; refine (HL.out _).mono ?_; rintro e w' ⟨rfl, rfl⟩)
                all_goals go_ret2
                all_goals rw [HRE.out]
                all_goals exact ⟨rfl, hbel⟩
          · clear hd1
            by_cases g1 : 97 ≤ lo
            · have g2 := hl1 g1
              clear hl1
              go_wp2_with (go_at_call 119; refine (HL.out _).mono ?_; rintro e w' ⟨rfl, rfl⟩)
              all_goals go_ret2
              all_goals rw [HRE.out]
              all_goals exact ⟨rfl, hbel⟩
            · clear hl1
              go_wp2_with (go_at_call 119; refine (HL.out _).mono ?_; rintro e w' ⟨rfl, rfl⟩)
              all_goals go_ret2
              all_goals rw [HRE.out]
              all_goals exact ⟨rfl, hbel⟩
    · have HRE : Hid (R = .ok acc.toNat) := by rw [← hgo, List.drop_of_length_le (by simp; omega)]; rfl
      clear hgo hcv hmx
      go_wp2
      go_ret2
      rw [HRE.out]
      refine ⟨?_, hbel⟩
      have e1 : (acc.toNat : Int) = acc := Int.toNat_of_nonneg hacc0
      show _ = Ending.returned (.tuple #[.int .u64 (acc.toNat : Int), .nilIface])
      rw [e1]
      exact rfl

end Go.Proofs.YtgahljgmgdjjdaaGreatDoor
