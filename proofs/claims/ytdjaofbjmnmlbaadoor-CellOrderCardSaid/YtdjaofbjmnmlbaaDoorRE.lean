/- The document's Utf8, for every text: it says what utf8.ValidString says. Conditions: texts of at most a million bytes. -/
import Derived.Test.YtdjaofbjmnmlbaaDoorRD
namespace Go.Proofs.YtdjaofbjmnmlbaaDoor
open Go.RowKit

set_option maxHeartbeats 16000000 in
set_option maxRecDepth 100000 in
theorem utf8_any (s : ByteArray) (hs : s.size ≤ 1000000) (w : World) :
    Calls Tryd.prog 123 #[.string s] w fun e w' => e = .returned (.bool (Lib.validD s.data.toList)) ∧ w = w' := by
  go_enter Tryd.func123, Tryd.ntmps123
  go_wp2
  go_loop [3] (fun vi => OInv s vi) (fun vi => s.size - (intOf vi).toNat)
  case atStart => exact ⟨0, Nat.zero_le _, rfl, rfl⟩
  case round =>
    obtain ⟨i, hi, rfl, hv⟩ := hrel
    by_cases hlt : i < s.size
    · have hd0 := dB_s s i 0 (by omega)
      simp only [Nat.add_zero] at hd0
      by_cases c1 : s[i].toNat < 128
      · have HV : Hid (Lib.validD s.data.toList = Lib.validD (s.data.toList.drop (i + 1))) := by
          have e := Lib.validD_cons s[i] (s.data.toList.drop (i + 1)) c1
          rw [hv, ← e, List.drop_eq_getElem_cons (show i < s.data.toList.length from hlt)]
          rfl
        clear hd0 hv
        go_wp2
        go_round
        case rel => exact ⟨i + 1, by omega, by go_num, HV.out⟩
        case measure => simp [intOf]; omega
      · have hsel : (194 ≤ s[i].toNat ∧ s[i].toNat ≤ 223) ∨ (224 ≤ s[i].toNat ∧ s[i].toNat ≤ 239) ∨ (240 ≤ s[i].toNat ∧ s[i].toNat ≤ 244) ∨ (s[i].toNat < 194 ∨ 244 < s[i].toNat) := by omega
        rcases hsel with ⟨h1, h2⟩ | ⟨h1, h2⟩ | ⟨h1, h2⟩ | hno
        · have HL := hid (lead_1 s i hlt hv (by omega) (by omega))
          have HP0 : Hid (part s i 192 0 = s[i].toNat - 192) := by unfold Hid part; rw [hd0]
          have HP32 : Hid (part s i 192 0 < 32) := by have := HP0.out; unfold Hid; omega
          have hq : (s[i].toNat : Int) - 192 = ((s[i].toNat - 192 : Nat) : Int) := by omega
          obtain ⟨p0, hp0⟩ : ∃ p0, s[i].toNat - 192 = p0 := ⟨_, rfl⟩
          rw [hp0] at HP0 hq
          have hp32 : p0 < 32 := by omega
          clear hd0 hv hp0
          by_cases hlen : i + 1 < s.size
          · have hge : ¬ ((s.size : Int) ≤ (i : Int) + 1) := by omega
            go_wp2
            go_loop [4, 7, 8] (fun vc vk _ => KInv s i 1 192 vc vk) (fun _ vk _ => 2 - (intOf vk).toNat)
            case atStart => exact ⟨1, p0, by omega, by omega, rfl, rfl, HP0.out.symm, by omega, rfl⟩
            case round =>
              obtain ⟨k, p, hk1, hk2, rfl, rfl, hp, hpb, hcs⟩ := hrel
              have HPP := hid hp
              have HCS := hid hcs
              clear hp hcs hq
              by_cases hkn : k ≤ 1
              · have hdk := hid (dB_s s i k (by omega))
                have hix : i + k < s.size := by omega
                obtain ⟨d, hd⟩ : ∃ d, s[i + k].toNat = d := ⟨_, rfl⟩
                have hat : (Instr.index 9 (.string s) (.int .i64 ((i : Int) + (k : Int)))).run Tryd.prog w = .ok (.int .u8 (d : Int)) w := by
                  have := string_at s (i + k) hix w
                  rw [hd] at this
                  rw [← this]
                  simp
                rw [hd] at hdk
                have hd256 : d < 256 := by rw [← hd]; exact s[i + k].toNat_lt
                clear hd
                by_cases hcb : 128 ≤ d ∧ d ≤ 191
                · obtain ⟨e1, e2⟩ := hcb
                  have HN := hid (part_next hk1 HPP.out HCS.out hdk.out e1 e2)
                  have HLT := hid (part_small s i 192 HP32.out k (by omega) HN.out.2)
                  go_wp2
                  go_round
                  case rel => exact ⟨k + 1, p * 64 + d - 128, by omega, by omega, by go_num, by go_num, HN.out.1.symm, by rw [← HN.out.1]; exact HLT.out, HN.out.2⟩
                  case measure => simp [intOf]; omega
                · have HF : Hid (Lib.validD s.data.toList = false) := by
                    have h1 := HL.out
                    unfold Lead at h1
                    rw [if_neg] at h1
                    · exact h1
                    · rintro ⟨_, h2, _⟩
                      rw [contsB_bad s i 1 k hk1 hkn (by rw [hdk.out]; unfold contB; simp; omega)] at h2
                      cases h2
                  go_wp2
                  all_goals first | (exfalso; omega) | skip
                  all_goals go_ret
                  all_goals exact ⟨ret_bool HF.out.symm, rfl⟩
              · obtain rfl : k = 2 := by omega
                have hp : p = part s i 192 1 := HPP.out
                have hcs : contsB s i 1 = true := HCS.out
                cases hbad : badC p 128
                · have HV : Hid (Lib.validD s.data.toList = Lib.validD (s.data.toList.drop (i + 2))) := by
                    have h1 := HL.out
                    unfold Lead at h1
                    rw [if_pos ⟨hlen, hcs, by rw [← hp]; exact hbad⟩] at h1
                    exact h1
                  have hb1 : 128 ≤ p ∧ p ≤ 1114111 ∧ ¬ (55296 ≤ p ∧ p ≤ 57343) := by
                    unfold badC at hbad
                    simp at hbad
                    omega
                  obtain ⟨b1, b2, b3⟩ := hb1
                  clear hp hcs hbad HPP HCS
                  go_wp2
                  all_goals first | (exfalso; omega) | skip
                  all_goals
                    go_round
                    case rel => exact ⟨i + 2, by omega, by go_num, HV.out⟩
                    case measure => simp [intOf]; omega
                · have HF : Hid (Lib.validD s.data.toList = false) := by
                    have h1 := HL.out
                    unfold Lead at h1
                    rw [if_neg] at h1
                    · exact h1
                    · rintro ⟨_, _, h2⟩
                      rw [← hp, hbad] at h2
                      cases h2
                  have hb1 : p < 128 ∨ 1114111 < p ∨ (55296 ≤ p ∧ p ≤ 57343) := by
                    unfold badC at hbad
                    simp at hbad
                    omega
                  clear hp hcs hbad HPP HCS
                  go_wp2
                  all_goals first | (exfalso; omega) | skip
                  all_goals go_ret
                  all_goals exact ⟨ret_bool HF.out.symm, rfl⟩
          · have HF : Hid (Lib.validD s.data.toList = false) := by
              have h1 := HL.out
              unfold Lead at h1
              rw [if_neg (fun h => hlen h.1)] at h1
              exact h1
            go_wp2
            all_goals first | (exfalso; omega) | skip
            all_goals go_ret
            all_goals exact ⟨ret_bool HF.out.symm, rfl⟩
        · have HL := hid (lead_2 s i hlt hv (by omega) (by omega))
          have HP0 : Hid (part s i 224 0 = s[i].toNat - 224) := by unfold Hid part; rw [hd0]
          have HP32 : Hid (part s i 224 0 < 32) := by have := HP0.out; unfold Hid; omega
          have hq : (s[i].toNat : Int) - 224 = ((s[i].toNat - 224 : Nat) : Int) := by omega
          obtain ⟨p0, hp0⟩ : ∃ p0, s[i].toNat - 224 = p0 := ⟨_, rfl⟩
          rw [hp0] at HP0 hq
          have hp32 : p0 < 32 := by omega
          clear hd0 hv hp0
          by_cases hlen : i + 2 < s.size
          · have hge : ¬ ((s.size : Int) ≤ (i : Int) + 2) := by omega
            go_wp2
            go_loop [4, 7, 8] (fun vc vk _ => KInv s i 2 224 vc vk) (fun _ vk _ => 3 - (intOf vk).toNat)
            case atStart => exact ⟨1, p0, by omega, by omega, rfl, rfl, HP0.out.symm, by omega, rfl⟩
            case round =>
              obtain ⟨k, p, hk1, hk2, rfl, rfl, hp, hpb, hcs⟩ := hrel
              have HPP := hid hp
              have HCS := hid hcs
              clear hp hcs hq
              by_cases hkn : k ≤ 2
              · have hdk := hid (dB_s s i k (by omega))
                have hix : i + k < s.size := by omega
                obtain ⟨d, hd⟩ : ∃ d, s[i + k].toNat = d := ⟨_, rfl⟩
                have hat : (Instr.index 9 (.string s) (.int .i64 ((i : Int) + (k : Int)))).run Tryd.prog w = .ok (.int .u8 (d : Int)) w := by
                  have := string_at s (i + k) hix w
                  rw [hd] at this
                  rw [← this]
                  simp
                rw [hd] at hdk
                have hd256 : d < 256 := by rw [← hd]; exact s[i + k].toNat_lt
                clear hd
                by_cases hcb : 128 ≤ d ∧ d ≤ 191
                · obtain ⟨e1, e2⟩ := hcb
                  have HN := hid (part_next hk1 HPP.out HCS.out hdk.out e1 e2)
                  have HLT := hid (part_small s i 224 HP32.out k (by omega) HN.out.2)
                  go_wp2
                  go_round
                  case rel => exact ⟨k + 1, p * 64 + d - 128, by omega, by omega, by go_num, by go_num, HN.out.1.symm, by rw [← HN.out.1]; exact HLT.out, HN.out.2⟩
                  case measure => simp [intOf]; omega
                · have HF : Hid (Lib.validD s.data.toList = false) := by
                    have h1 := HL.out
                    unfold Lead at h1
                    rw [if_neg] at h1
                    · exact h1
                    · rintro ⟨_, h2, _⟩
                      rw [contsB_bad s i 2 k hk1 hkn (by rw [hdk.out]; unfold contB; simp; omega)] at h2
                      cases h2
                  go_wp2
                  all_goals first | (exfalso; omega) | skip
                  all_goals go_ret
                  all_goals exact ⟨ret_bool HF.out.symm, rfl⟩
              · obtain rfl : k = 3 := by omega
                have hp : p = part s i 224 2 := HPP.out
                have hcs : contsB s i 2 = true := HCS.out
                cases hbad : badC p 2048
                · have HV : Hid (Lib.validD s.data.toList = Lib.validD (s.data.toList.drop (i + 3))) := by
                    have h1 := HL.out
                    unfold Lead at h1
                    rw [if_pos ⟨hlen, hcs, by rw [← hp]; exact hbad⟩] at h1
                    exact h1
                  have hb1 : 2048 ≤ p ∧ p ≤ 1114111 ∧ ¬ (55296 ≤ p ∧ p ≤ 57343) := by
                    unfold badC at hbad
                    simp at hbad
                    omega
                  obtain ⟨b1, b2, b3⟩ := hb1
                  clear hp hcs hbad HPP HCS
                  go_wp2
                  all_goals first | (exfalso; omega) | skip
                  all_goals
                    go_round
                    case rel => exact ⟨i + 3, by omega, by go_num, HV.out⟩
                    case measure => simp [intOf]; omega
                · have HF : Hid (Lib.validD s.data.toList = false) := by
                    have h1 := HL.out
                    unfold Lead at h1
                    rw [if_neg] at h1
                    · exact h1
                    · rintro ⟨_, _, h2⟩
                      rw [← hp, hbad] at h2
                      cases h2
                  have hb1 : p < 2048 ∨ 1114111 < p ∨ (55296 ≤ p ∧ p ≤ 57343) := by
                    unfold badC at hbad
                    simp at hbad
                    omega
                  clear hp hcs hbad HPP HCS
                  go_wp2
                  all_goals first | (exfalso; omega) | skip
                  all_goals go_ret
                  all_goals exact ⟨ret_bool HF.out.symm, rfl⟩
          · have HF : Hid (Lib.validD s.data.toList = false) := by
              have h1 := HL.out
              unfold Lead at h1
              rw [if_neg (fun h => hlen h.1)] at h1
              exact h1
            go_wp2
            all_goals first | (exfalso; omega) | skip
            all_goals go_ret
            all_goals exact ⟨ret_bool HF.out.symm, rfl⟩
        · have HL := hid (lead_3 s i hlt hv (by omega) (by omega))
          have HP0 : Hid (part s i 240 0 = s[i].toNat - 240) := by unfold Hid part; rw [hd0]
          have HP32 : Hid (part s i 240 0 < 32) := by have := HP0.out; unfold Hid; omega
          have hq : (s[i].toNat : Int) - 240 = ((s[i].toNat - 240 : Nat) : Int) := by omega
          obtain ⟨p0, hp0⟩ : ∃ p0, s[i].toNat - 240 = p0 := ⟨_, rfl⟩
          rw [hp0] at HP0 hq
          have hp32 : p0 < 32 := by omega
          clear hd0 hv hp0
          by_cases hlen : i + 3 < s.size
          · have hge : ¬ ((s.size : Int) ≤ (i : Int) + 3) := by omega
            go_wp2
            go_loop [4, 7, 8] (fun vc vk _ => KInv s i 3 240 vc vk) (fun _ vk _ => 4 - (intOf vk).toNat)
            case atStart => exact ⟨1, p0, by omega, by omega, rfl, rfl, HP0.out.symm, by omega, rfl⟩
            case round =>
              obtain ⟨k, p, hk1, hk2, rfl, rfl, hp, hpb, hcs⟩ := hrel
              have HPP := hid hp
              have HCS := hid hcs
              clear hp hcs hq
              by_cases hkn : k ≤ 3
              · have hdk := hid (dB_s s i k (by omega))
                have hix : i + k < s.size := by omega
                obtain ⟨d, hd⟩ : ∃ d, s[i + k].toNat = d := ⟨_, rfl⟩
                have hat : (Instr.index 9 (.string s) (.int .i64 ((i : Int) + (k : Int)))).run Tryd.prog w = .ok (.int .u8 (d : Int)) w := by
                  have := string_at s (i + k) hix w
                  rw [hd] at this
                  rw [← this]
                  simp
                rw [hd] at hdk
                have hd256 : d < 256 := by rw [← hd]; exact s[i + k].toNat_lt
                clear hd
                by_cases hcb : 128 ≤ d ∧ d ≤ 191
                · obtain ⟨e1, e2⟩ := hcb
                  have HN := hid (part_next hk1 HPP.out HCS.out hdk.out e1 e2)
                  have HLT := hid (part_small s i 240 HP32.out k (by omega) HN.out.2)
                  go_wp2
                  go_round
                  case rel => exact ⟨k + 1, p * 64 + d - 128, by omega, by omega, by go_num, by go_num, HN.out.1.symm, by rw [← HN.out.1]; exact HLT.out, HN.out.2⟩
                  case measure => simp [intOf]; omega
                · have HF : Hid (Lib.validD s.data.toList = false) := by
                    have h1 := HL.out
                    unfold Lead at h1
                    rw [if_neg] at h1
                    · exact h1
                    · rintro ⟨_, h2, _⟩
                      rw [contsB_bad s i 3 k hk1 hkn (by rw [hdk.out]; unfold contB; simp; omega)] at h2
                      cases h2
                  go_wp2
                  all_goals first | (exfalso; omega) | skip
                  all_goals go_ret
                  all_goals exact ⟨ret_bool HF.out.symm, rfl⟩
              · obtain rfl : k = 4 := by omega
                have hp : p = part s i 240 3 := HPP.out
                have hcs : contsB s i 3 = true := HCS.out
                cases hbad : badC p 65536
                · have HV : Hid (Lib.validD s.data.toList = Lib.validD (s.data.toList.drop (i + 4))) := by
                    have h1 := HL.out
                    unfold Lead at h1
                    rw [if_pos ⟨hlen, hcs, by rw [← hp]; exact hbad⟩] at h1
                    exact h1
                  have hb1 : 65536 ≤ p ∧ p ≤ 1114111 ∧ ¬ (55296 ≤ p ∧ p ≤ 57343) := by
                    unfold badC at hbad
                    simp at hbad
                    omega
                  obtain ⟨b1, b2, b3⟩ := hb1
                  clear hp hcs hbad HPP HCS
                  go_wp2
                  all_goals first | (exfalso; omega) | skip
                  all_goals
                    go_round
                    case rel => exact ⟨i + 4, by omega, by go_num, HV.out⟩
                    case measure => simp [intOf]; omega
                · have HF : Hid (Lib.validD s.data.toList = false) := by
                    have h1 := HL.out
                    unfold Lead at h1
                    rw [if_neg] at h1
                    · exact h1
                    · rintro ⟨_, _, h2⟩
                      rw [← hp, hbad] at h2
                      cases h2
                  have hb1 : p < 65536 ∨ 1114111 < p ∨ (55296 ≤ p ∧ p ≤ 57343) := by
                    unfold badC at hbad
                    simp at hbad
                    omega
                  clear hp hcs hbad HPP HCS
                  go_wp2
                  all_goals first | (exfalso; omega) | skip
                  all_goals go_ret
                  all_goals exact ⟨ret_bool HF.out.symm, rfl⟩
          · have HF : Hid (Lib.validD s.data.toList = false) := by
              have h1 := HL.out
              unfold Lead at h1
              rw [if_neg (fun h => hlen h.1)] at h1
              exact h1
            go_wp2
            all_goals first | (exfalso; omega) | skip
            all_goals go_ret
            all_goals exact ⟨ret_bool HF.out.symm, rfl⟩
        · have HV : Hid (Lib.validD s.data.toList = false) := by
            rw [hv]
            exact valid_no _ (drop_ne s i hlt) _ (dB_drop s i 0) (by omega) (by omega)
          clear hd0 hv
          rcases hno with hno | hno
          · have n1 : ¬ (194 ≤ s[i].toNat) := by omega
            have n2 : ¬ (224 ≤ s[i].toNat) := by omega
            have n3 : ¬ (240 ≤ s[i].toNat) := by omega
            go_wp2
            go_ret
            exact ⟨ret_bool HV.out.symm, rfl⟩
          · obtain ⟨c, hc⟩ : ∃ c, s[i].toNat = c := ⟨_, rfl⟩
            have hat : (Instr.index 9 (.string s) (.int .i64 (i : Int))).run Tryd.prog w = .ok (.int .u8 (c : Int)) w := by
              rw [← hc]
              exact string_at s i hlt w
            have hc256 : c < 256 := by rw [← hc]; exact s[i].toNat_lt
            rw [hc] at hno c1
            clear hc
            have m0 : decide (c < 128) = false := decide_eq_false (by omega)
            have n1 : decide (194 ≤ c) = true := decide_eq_true (by omega)
            have n2 : decide (224 ≤ c) = true := decide_eq_true (by omega)
            have n3 : decide (240 ≤ c) = true := decide_eq_true (by omega)
            have m1 : decide (c ≤ 223) = false := decide_eq_false (by omega)
            have m2 : decide (c ≤ 239) = false := decide_eq_false (by omega)
            have m3 : decide (c ≤ 244) = false := decide_eq_false (by omega)
            have HNO := hid hno
            clear hno c1 m0 n1 n2 n3 m1 m2 m3
            go_wp2
            all_goals first | (exfalso; have := HNO.out; omega) | skip
            all_goals go_ret
            all_goals exact ⟨ret_bool HV.out.symm, rfl⟩
    · obtain rfl : i = s.size := by omega
      have HV : Hid (Lib.validD s.data.toList = true) := by
        rw [hv, List.drop_of_length_le (by simp)]
        rfl
      clear hv
      go_wp2
      go_ret
      exact ⟨ret_bool HV.out.symm, rfl⟩

end Go.Proofs.YtdjaofbjmnmlbaaDoor
