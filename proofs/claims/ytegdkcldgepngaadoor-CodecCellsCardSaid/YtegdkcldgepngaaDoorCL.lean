/- The document's LongCells at a list of at most ten cells. Conditions: the list holds its cells. -/
import Derived.Test.YtegdkcldgepngaaDoorCB
import Derived.Deep.RegionHeld3
namespace Go.Proofs.YtegdkcldgepngaaDoor
open Go.RowKit

/-- Is a cell greater than is looked at? -/
def longC (r f q vs : ByteArray) : Bool := decide (60 < r.size) || (decide (60 < f.size) || (decide (60 < q.size) || decide (100 < vs.size)))
structure Tx4 where
  r : ByteArray
  f : ByteArray
  q : ByteArray
  s : ByteArray
def Tx4.long (c : Tx4) : Bool := longC c.r c.f c.q c.s

set_option maxRecDepth 100000 in
set_option maxHeartbeats 2000000 in
theorem longcells_any (b n : Nat) (hn : n ≤ 10) (L : List Tx4) (hl : L.length = n) (w : World) (hh : ∀ i (h : i < L.length), w.cell? ⟨b, i * 8, none⟩ = some (.string L[i].r) ∧ w.cell? ⟨b, i * 8 + 1, none⟩ = some (.string L[i].f) ∧ w.cell? ⟨b, i * 8 + 2, none⟩ = some (.string L[i].q) ∧ w.cell? ⟨b, i * 8 + 7, none⟩ = some (.string L[i].s)) :
    Calls Tryd.prog 32 #[.slice (some ⟨b, 0, none⟩) n n, .int .i64 10] w fun e w' => e = .returned (.bool (L.any Tx4.long)) ∧ Below w.heap.size w w' := by
  have HH := hid hh
  have HL := hid hl
  clear hh hl
  go_enter Tryd.func32, Tryd.ntmps32
  go_wp2
  go_loopw [5] (fun vi wr => ∃ i : Nat, i ≤ n ∧ vi = .int .i64 i ∧ wr = w ∧ Hid ((L.take i).any Tx4.long = false)) (fun vi _ => n - (intOf vi).toNat)
  case atStart => exact ⟨0, Nat.zero_le _, rfl, rfl, rfl⟩
  case round =>
    obtain ⟨i, hi, rfl, rfl, HA⟩ := hrel
    by_cases hlt : i < n
    · have hil : i < L.length := by rw [HL.out]; exact hlt
      obtain ⟨c0, c1, c2, c7⟩ := HH.out i hil
      have HN : Hid ((L.take (i + 1)).any Tx4.long = L[i].long) := by
        unfold Hid
        rw [List.take_succ_eq_append_getElem hil, List.any_append, HA.out]
        simp
      have HT : Hid (L[i].long = true → L.any Tx4.long = true) := fun h => List.any_eq_true.2 ⟨L[i], List.getElem_mem hil, h⟩
      unfold Tx4.long longC at HN HT
      generalize L[i].r = r at *
      generalize L[i].f = f at *
      generalize L[i].q = q at *
      generalize L[i].s = s at *
      by_cases h1 : 60 < r.size
      · have HV : Hid (L.any Tx4.long = true) := HT.out (by rw [decide_eq_true h1]; rfl)
        have i1 : (60 : Int) < (r.size : Int) := by omega
        clear HT HN
        go_wp2
        go_ret
        rw [HV.out]
        exact ⟨rfl, Below.refl _ _⟩
      have i1 : ¬ (60 : Int) < (r.size : Int) := by omega
      by_cases h2 : 60 < f.size
      · have HV : Hid (L.any Tx4.long = true) := HT.out (by rw [decide_eq_true h2]; simp)
        have i2 : (60 : Int) < (f.size : Int) := by omega
        clear HT HN
        go_wp2
        go_ret
        rw [HV.out]
        exact ⟨rfl, Below.refl _ _⟩
      have i2 : ¬ (60 : Int) < (f.size : Int) := by omega
      by_cases h3 : 60 < q.size
      · have HV : Hid (L.any Tx4.long = true) := HT.out (by rw [decide_eq_true h3]; simp)
        have i3 : (60 : Int) < (q.size : Int) := by omega
        clear HT HN
        go_wp2
        go_ret
        rw [HV.out]
        exact ⟨rfl, Below.refl _ _⟩
      have i3 : ¬ (60 : Int) < (q.size : Int) := by omega
      by_cases h4 : 100 < s.size
      · have HV : Hid (L.any Tx4.long = true) := HT.out (by rw [decide_eq_true h4]; simp)
        have i4 : (100 : Int) < (s.size : Int) := by omega
        clear HT HN
        go_wp2
        go_ret
        rw [HV.out]
        exact ⟨rfl, Below.refl _ _⟩
      have i4 : ¬ (100 : Int) < (s.size : Int) := by omega
      have HV : Hid ((L.take (i + 1)).any Tx4.long = false) := by
        have := HN.out
        unfold Hid Tx4.long longC
        rw [this, decide_eq_false h1, decide_eq_false h2, decide_eq_false h3, decide_eq_false h4]; rfl
      clear HT HN
      go_wp2
      all_goals first | (exfalso; omega) | skip
      go_roundw
      case rel => exact ⟨i + 1, by omega, by go_num, trivial, HV⟩
      case measure => simp [intOf]; omega
    · have HV : Hid (L.any Tx4.long = false) := by
        have := HA.out
        rwa [List.take_of_length_le (by rw [HL.out]; omega)] at this
      go_wp2
      go_ret
      rw [HV.out]
      exact ⟨rfl, Below.refl _ _⟩
end Go.Proofs.YtegdkcldgepngaaDoor
