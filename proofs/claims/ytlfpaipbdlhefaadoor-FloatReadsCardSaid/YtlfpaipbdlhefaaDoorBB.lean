/- The law FloatReads answers true for every slice of bytes and every text. Conditions: the error variables hold errors; the table of math/bits reads as it is laid. -/
import Derived.Test.YtlfpaipbdlhefaaDoorAA
namespace Go.Proofs.YtlfpaipbdlhefaaDoor
open Go.RowKit

/-- Both Froms answer the same at this slice. -/
def FromBoth (v : Value) (w : World) : Prop := ∃ (n : Int) (ok : Bool), ∀ W, Below w.heap.size w W →
  (Calls Tryd.prog 19 #[v] W fun e w' => e = .returned (.tuple #[.int .i64 n, .bool ok]) ∧ W = w') ∧ (Calls Tryd.prog 20 #[v] W fun e w' => e = .returned (.tuple #[.int .i64 n, .bool ok]) ∧ W = w')
/-- Both Reads answer the same at this text. -/
def ReadBoth (s : ByteArray) (w : World) : Prop := ∃ (n : Int) (ok : Bool), ∀ W, Below w.heap.size w W →
  (Calls Tryd.prog 21 #[.string s] W fun e w' => e = .returned (.tuple #[.int .i64 n, .bool ok]) ∧ Below w.heap.size w w') ∧ (Calls Tryd.prog 22 #[.string s] W fun e w' => e = .returned (.tuple #[.int .i64 n, .bool ok]) ∧ Below w.heap.size w w')

theorem fromEnd_form (n : Int) : ∃ (m : Int) (ok : Bool), fromEnd n = .returned (.tuple #[.int .i64 m, .bool ok]) := by
  unfold fromEnd
  split
  · exact ⟨_, _, rfl⟩
  · exact ⟨_, _, rfl⟩

theorem fromBoth_len {a : Option Addr} (len cap : Nat) (h : len ≠ 8) (w : World) : FromBoth (.slice a len cap) w :=
  ⟨0, false, fun W _ => ⟨from_no len cap h W, refFrom_no len cap h W⟩⟩

theorem fromBoth_8 (b off cap : Nat) (l : List UInt8) (hl : l.length = 8) (w : World) (hb : b < w.heap.size) (hc : ∀ i, i < 8 → w.cell? ⟨b, off + i, none⟩ = some (.int .u8 ((l.getD i 0).toNat : Int))) :
    FromBoth (.slice (some ⟨b, off, none⟩) 8 cap) w := by
  obtain ⟨m, ok, hE⟩ := fromEnd_form (unrankI (foldB l))
  refine ⟨m, ok, fun W hW => ?_⟩
  have hc' : ∀ i, i < 8 → W.cell? ⟨b, off + i, none⟩ = some (.int .u8 ((l.getD i 0).toNat : Int)) := fun i hi => by rw [hW.cell (p := ⟨b, off + i, none⟩) hb]; exact hc i hi
  have h1 := from_off l hl b off cap W hc'
  have h2 := refFrom_off l hl b off cap W hc'
  rw [hE] at h1 h2
  exact ⟨h1, h2⟩

theorem readBoth_any (s : ByteArray) (hs : s.size ≤ 1000) (w : World) (he : ErrsIn w) (hc : w.cell? ⟨6, 15, none⟩ = some (.int .u8 4)) : ReadBoth s w := by
  obtain ⟨l, rfl⟩ : ∃ l : List UInt8, s = ⟨l.toArray⟩ := ⟨s.data.toList, by cases s; rfl⟩
  have hl : l.length ≤ 1000 := by simpa [ByteArray.size] using hs
  have h6 := cell_lt hc
  have hc' : ∀ W, Below w.heap.size w W → W.cell? ⟨6, 15, none⟩ = some (.int .u8 4) := fun W hW => by rw [hW.cell h6]; exact hc
  by_cases h : ∃ n, inI n ∧ rightB n = true ∧ showT n = l
  · obtain ⟨n, hn, hr, rfl⟩ := h
    refine ⟨n, true, fun W hW => ⟨read_carried hn hr w W hc hW, ?_⟩⟩
    exact (refRead_yes hn hr W).mono fun _ _ ⟨h, hb⟩ => ⟨h, hW.trans (hb.mono hW.size)⟩
  · have hno : NoneShows l := fun n hn hr hs => h ⟨n, hn, hr, hs⟩
    refine ⟨0, false, fun W hW => ⟨?_, ?_⟩⟩
    · exact (read_no l hl hno W (he.below hW) (hc' W hW)).mono fun _ _ ⟨h, hb⟩ => ⟨h, hW.trans (hb.mono hW.size)⟩
    · exact (refRead_no l hno W).mono fun _ _ ⟨h, hb⟩ => ⟨h, hW.trans (hb.mono hW.size)⟩

set_option maxHeartbeats 1000000 in
/-- The law FloatReads. -/
theorem reads_walk {a : Option Addr} (len cap : Nat) (s : ByteArray) (w : World) (hF : len ≤ 100 → FromBoth (.slice a len cap) w) (he : ErrsIn w) (hc : w.cell? ⟨6, 15, none⟩ = some (.int .u8 4)) :
    Calls Tryd.prog 4 #[.slice a len cap, .string s] w fun e w' => e = .returned (.bool true) ∧ Below w.heap.size w w' := by
  have HA := hid (alive_any w hc)
  by_cases hl : len ≤ 100
  · by_cases hs : s.size ≤ 100
    · obtain ⟨n, ok, hf⟩ := hF hl
      obtain ⟨m, has, hr⟩ := readBoth_any s (by omega) w he hc
      have F1 : Hid (∀ W, Below w.heap.size w W → Calls Tryd.prog 19 #[.slice a len cap] W fun e w' => e = .returned (.tuple #[.int .i64 n, .bool ok]) ∧ W = w') := fun W hW => (hf W hW).1
      have F2 : Hid (∀ W, Below w.heap.size w W → Calls Tryd.prog 20 #[.slice a len cap] W fun e w' => e = .returned (.tuple #[.int .i64 n, .bool ok]) ∧ W = w') := fun W hW => (hf W hW).2
      have R1 : Hid (∀ W, Below w.heap.size w W → Calls Tryd.prog 21 #[.string s] W fun e w' => e = .returned (.tuple #[.int .i64 m, .bool has]) ∧ Below w.heap.size w w') := fun W hW => (hr W hW).1
      have R2 : Hid (∀ W, Below w.heap.size w W → Calls Tryd.prog 22 #[.string s] W fun e w' => e = .returned (.tuple #[.int .i64 m, .bool has]) ∧ Below w.heap.size w w') := fun W hW => (hr W hW).2
      clear hF he hc hf hr
      go_enter Tryd.func4, Tryd.ntmps4
      go_wp2_with (first | (go_at_call 9; refine HA.out.mono ?_; rintro e w' ⟨rfl, hb⟩) | (go_at_call 19; refine (F1.out _ (by assumption)).mono ?_; rintro e w' ⟨rfl, rfl⟩) | (go_at_call 20; refine (F2.out _ (by assumption)).mono ?_; rintro e w' ⟨rfl, rfl⟩) | (go_at_call 21; refine (R1.out _ (by assumption)).mono ?_; rintro e w' ⟨rfl, hb⟩) | (go_at_call 22; refine (R2.out _ (by assumption)).mono ?_; rintro e w' ⟨rfl, hb⟩))
      go_ret
      exact ⟨rfl, by assumption⟩
    · clear hF he hc
      go_enter Tryd.func4, Tryd.ntmps4
      go_wp2_with (go_at_call 9; refine HA.out.mono ?_; rintro e w' ⟨rfl, hb⟩)
      go_ret
      exact ⟨rfl, by assumption⟩
  · clear hF he hc
    go_enter Tryd.func4, Tryd.ntmps4
    go_wp2_with (go_at_call 9; refine HA.out.mono ?_; rintro e w' ⟨rfl, hb⟩)
    go_ret
    exact ⟨rfl, by assumption⟩

end Go.Proofs.YtlfpaipbdlhefaaDoor
