/- codec.rank and cmp.Or at every input. Conditions: the list of numbers holds its numbers. -/
import Derived.Test.YtfcnobcpnhfgmaaDoorCC
namespace Go.Proofs.YtfcnobcpnhfgmaaDoor
open Go.RowKit

def rankC (k : Int) : Int := if k = 4 then 0 else 1
set_option maxHeartbeats 1000000 in
theorem crank_any (r f q vs : ByteArray) (t k vk vn : Int) (w : World) :
    Calls Tryd.prog 109 #[cellV r f q t k vk vn vs] w fun e w' => e = .returned (.int .i64 (rankC k)) ∧ Below w.heap.size w w' := by
  unfold rankC
  by_cases h : k = 4
  · subst h
    rw [if_pos rfl]
    go_enter Tryd.func109, Tryd.ntmps109
    go_wp2
    go_ret
    exact ⟨rfl, below_new _ _⟩
  · rw [if_neg h]
    have h0 : (k == 4) = false := by simpa using h
    go_enter Tryd.func109, Tryd.ntmps109
    go_wp2
    go_ret
    exact ⟨rfl, below_new _ _⟩

/-- The first that isn't nothing. -/
def orI : List Int → Int
  | [] => 0
  | x :: t => if x = 0 then orI t else x

set_option maxRecDepth 100000 in
set_option maxHeartbeats 1000000 in
theorem or_any (b n : Nat) (hn : n ≤ 1000) (l : List Int) (hl : l.length = n) (w : World) (hh : ∀ i (h : i < l.length), w.cell? ⟨b, i, none⟩ = some (.int .i64 l[i])) :
    Calls Tryd.prog 106 #[.slice (some ⟨b, 0, none⟩) n n] w fun e w' => e = .returned (.int .i64 (orI l)) ∧ w' = w := by
  have HH := hid hh
  have HL := hid hl
  clear hh hl
  go_enter Tryd.func106, Tryd.ntmps106
  go_wp2
  go_loopw [8] (fun vi wr => ∃ i : Nat, i ≤ n ∧ vi = .int .i64 i ∧ wr = w ∧ Hid (orI l = orI (l.drop i))) (fun vi _ => n - (intOf vi).toNat)
  case atStart => exact ⟨0, Nat.zero_le _, rfl, rfl, rfl⟩
  case round =>
    obtain ⟨i, hi, rfl, rfl, HO⟩ := hrel
    by_cases hlt : i < n
    · have hil : i < l.length := by rw [HL.out]; exact hlt
      have hc := HH.out i hil
      have HD : Hid (orI l = if l[i] = 0 then orI (l.drop (i + 1)) else l[i]) := by
        unfold Hid
        rw [HO.out, List.drop_eq_getElem_cons hil, orI]
      generalize l[i] = x at hc HD
      by_cases hx : x = 0
      · subst hx
        go_wp2
        go_roundw
        case rel => exact ⟨i + 1, by omega, by go_num, trivial, by unfold Hid; rw [HD.out, if_pos rfl]⟩
        case measure => simp [intOf]; omega
      · have q0 : (x != 0) = true := by simpa using hx
        go_wp2
        go_ret
        rw [HD.out, if_neg hx]
        exact ⟨rfl, rfl⟩
    · go_wp2
      go_ret
      rw [HO.out, List.drop_eq_nil_of_le (by have := HL.out; omega)]
      exact ⟨rfl, rfl⟩
end Go.Proofs.YtfcnobcpnhfgmaaDoor
