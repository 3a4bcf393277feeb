/- codec.name at every text. Conditions: the text is no longer than any is. -/
import Derived.Test.YtfcnobcpnhfgmaaDoorVA
import Derived.Deep.QuietTactic
import Derived.BigQuiet
namespace Go.Proofs.YtfcnobcpnhfgmaaDoor
open Go.RowKit

def nmB (c : UInt8) : Bool := (decide (97 ≤ c.toNat) && decide (c.toNat ≤ 122)) || (decide (48 ≤ c.toNat) && decide (c.toNat ≤ 57))
/-- Is a text a family's name? -/
def nameB (l : List UInt8) : Bool := l.all nmB && (decide (1 ≤ l.length) && decide (l.length ≤ 8))
theorem getD_str' (s : ByteArray) (i : Nat) (h : i < s.size) : s.data.toList.getD i 0 = s[i] := by
  rw [List.getD_eq_getElem?_getD, List.getElem?_eq_getElem (show i < s.data.toList.length from h)]
  rfl
theorem all_take_next {p : UInt8 → Bool} (l : List UInt8) (i : Nat) (h : i < l.length) : (l.take (i + 1)).all p = ((l.take i).all p && p (l.getD i 0)) := by
  rw [List.take_succ_eq_append_getElem h, List.all_append]
  simp [List.getD_eq_getElem?_getD, List.getElem?_eq_getElem h]
theorem all_take_false {p : UInt8 → Bool} (l : List UInt8) (i : Nat) (h : i < l.length) (hp : p (l.getD i 0) = false) : l.all p = false := by
  rw [List.all_eq_false]
  refine ⟨l[i], List.getElem_mem h, ?_⟩
  rw [List.getD_eq_getElem?_getD, List.getElem?_eq_getElem h] at hp
  simpa using hp

set_option maxRecDepth 100000 in
set_option maxHeartbeats 2000000 in
theorem name_any (s : ByteArray) (hs : s.size ≤ 9223372036854775807) (w : World) :
    Calls Tryd.prog 111 #[.string s] w fun e w' => e = .returned (.bool (nameB s.data.toList)) ∧ w' = w := by
  go_enter Tryd.func111, Tryd.ntmps111
  go_wp2
  go_loopw [6] (fun vi wr => ∃ i : Nat, i ≤ s.size ∧ vi = .int .i64 i ∧ wr = w ∧ Hid ((s.data.toList.take i).all nmB = true)) (fun vi _ => s.size - (intOf vi).toNat)
  case atStart => exact ⟨0, Nat.zero_le _, rfl, rfl, rfl⟩
  case round =>
    obtain ⟨i, hi, rfl, rfl, HA⟩ := hrel
    by_cases hlt : i < s.size
    · have hll : i < s.data.toList.length := hlt
      have HT : Hid ((s.data.toList.take (i + 1)).all nmB = nmB s[i]) := by
        unfold Hid
        rw [all_take_next _ i hll, HA.out, Bool.true_and, getD_str' s i hlt]
      have HF : Hid (nmB s[i] = false → nameB s.data.toList = false) := by
        intro h
        unfold nameB
        rw [all_take_false s.data.toList i hll (by rw [getD_str' s i hlt]; exact h), Bool.false_and]
      by_cases hn : nmB s[i] = true
      · have HN := hid hn
        unfold nmB at hn
        simp only [Bool.or_eq_true, Bool.and_eq_true, decide_eq_true_eq] at hn
        rcases hn with ⟨a1, a2⟩ | ⟨a1, a2⟩
        · have b1 : (97 : Int) ≤ (s[i].toNat : Int) := by omega
          have b2 : (s[i].toNat : Int) ≤ 122 := by omega
          clear a1 a2
          go_wp2
          go_roundw
          case rel => exact ⟨i + 1, by omega, by go_num, trivial, by unfold Hid; rw [HT.out]; exact HN.out⟩
          case measure => simp [intOf]; omega
        · have b1 : (48 : Int) ≤ (s[i].toNat : Int) := by omega
          have b2 : (s[i].toNat : Int) ≤ 57 := by omega
          have b3 : ¬ (97 : Int) ≤ (s[i].toNat : Int) := by omega
          clear a1 a2
          go_wp2
          go_roundw
          case rel => exact ⟨i + 1, by omega, by go_num, trivial, by unfold Hid; rw [HT.out]; exact HN.out⟩
          case measure => simp [intOf]; omega
      · have HN : Hid (nmB s[i] = false) := by unfold Hid; simpa using hn
        have hn := HN.out
        unfold nmB at hn
        have hc : (s[i].toNat < 48) ∨ (57 < s[i].toNat ∧ s[i].toNat < 97) ∨ 122 < s[i].toNat := by
          simp only [Bool.or_eq_false_iff, Bool.and_eq_false_iff, decide_eq_false_iff_not] at hn
          omega
        clear hn
        rcases hc with h | ⟨h, h'⟩ | h
        · have b1 : ¬ (97 : Int) ≤ (s[i].toNat : Int) := by omega
          have b2 : ¬ (48 : Int) ≤ (s[i].toNat : Int) := by omega
          go_wp2
          go_ret
          rw [HF.out HN.out]
          exact ⟨rfl, rfl⟩
        · have b1 : ¬ (97 : Int) ≤ (s[i].toNat : Int) := by omega
          have b2 : (48 : Int) ≤ (s[i].toNat : Int) := by omega
          have b3 : ¬ (s[i].toNat : Int) ≤ 57 := by omega
          go_wp2
          go_ret
          rw [HF.out HN.out]
          exact ⟨rfl, rfl⟩
        · have b1 : (97 : Int) ≤ (s[i].toNat : Int) := by omega
          have b2 : ¬ (s[i].toNat : Int) ≤ 122 := by omega
          have b3 : (48 : Int) ≤ (s[i].toNat : Int) := by omega
          have b4 : ¬ (s[i].toNat : Int) ≤ 57 := by omega
          go_wp2
          go_ret
          rw [HF.out HN.out]
          exact ⟨rfl, rfl⟩
    · have HE : Hid (nameB s.data.toList = (decide (1 ≤ s.size) && decide (s.size ≤ 8))) := by
        have h := HA.out
        rw [List.take_of_length_le (show s.data.toList.length ≤ i by show s.size ≤ i; omega)] at h
        unfold Hid nameB
        rw [h, Bool.true_and]
        rfl
      go_wp2
      all_goals go_ret
      all_goals rw [HE.out]
      · rename_i h
        exact ⟨ret_bool (show decide ((s.size : Int) ≤ 8) = _ by rw [decide_eq_true (show 1 ≤ s.size by omega), Bool.true_and]; exact decide_eq_decide.2 (by omega)), rfl⟩
      · rename_i h
        exact ⟨ret_bool (show false = _ by rw [decide_eq_false (show ¬ 1 ≤ s.size by omega)]; rfl), rfl⟩
end Go.Proofs.YtfcnobcpnhfgmaaDoor
