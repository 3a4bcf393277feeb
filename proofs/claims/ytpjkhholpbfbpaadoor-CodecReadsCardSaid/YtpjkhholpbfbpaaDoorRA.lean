/- The document's Escaped, for every text of at most a thousand bytes. Conditions: the length alone. -/
import Derived.Test.YtpjkhholpbfbpaaDoorMD
namespace Go.Proofs.YtpjkhholpbfbpaaDoor
open Go.RowKit

theorem Row.nil_new (w : World) (B : Nat) (hB : B ≤ w.heap.size) : Row (w.alloc (.cells #[] 5)) B (.slice (some ⟨w.heap.size, 0, Option.none⟩) 0 0) [] := by
  have h := Row.new w B hB [] (by simp)
  simpa [bc] using h

set_option maxHeartbeats 2000000 in
theorem refEscaped_B (s : ByteArray) (hs : s.size ≤ 4000) (w : World) (B : Nat) (HBw : Hid (w.heap.size = B)) :
    Calls Tryd.prog 100 #[.string s] w fun e w' => ∃ v', e = .returned v' ∧ Row w' B v' (esc s.data.toList ++ [0, 1]) ∧ Below B w w' := by
  have HN := hid (Row.nil_new w B (by rw [HBw.out]; exact Nat.le_refl _))
  have HB0 : Hid (∀ o, Below B w (w.alloc o)) := fun o => by
    have := below_new w o
    rwa [HBw.out] at this
  go_enter Tryd.func100, Tryd.ntmps100
  go_wp2
  go_loopw [3, 4] (fun vb vi wr => ∃ k : Nat, k ≤ s.size ∧ vi = .int .i64 k ∧ Row wr B vb (esc (s.data.toList.take k)) ∧ Below B w wr) (fun _ vi _ => s.size - (intOf vi).toNat)
  case atStart => exact ⟨0, by omega, rfl, by simpa [esc] using HN.out, HB0.out _⟩
  case round =>
    obtain ⟨k, hk, rfl, hR, hbel⟩ := hrel
    have HR := hid hR
    have HL : Hid ((esc (s.data.toList.take k)).length ≤ 12000) := by
      have := esc_take_len s k hk
      unfold Hid
      omega
    have hBs : B ≤ wr.heap.size := by have := hbel.size; have := HBw.out; omega
    by_cases hlt : k < s.size
    · have HS := hid (esc_snoc s k hlt)
      clear hR
      go_wp2_with (first | (at_builtin; refine wpList_append_bytes rfl (.tmp 12) (.tmp 16) rfl _ B _ _ rfl (HR.out.alloc _) ⟨wr.heap.size, 0, none⟩ 1 1 [s[k]] rfl rfl (one_new' _ _ _ _ rfl) (by have := HL.out; simp only [List.length_cons, List.length_nil]; omega) (by simp; omega) ?_; intro v1 w1 hR1 hb1) | (at_builtin; refine wpList_append_bytes rfl (.tmp 22) (.tmp 23) rfl _ B _ _ rfl (hR1.alloc _) ⟨w1.heap.size, 0, none⟩ 1 1 [255] rfl rfl (one_new' _ _ _ _ rfl) (by have := HL.out; simp only [List.length_append, List.length_cons, List.length_nil] at this ⊢; omega) (by have := hb1.size; simp at this ⊢; omega) ?_; intro v2 w2 hR2 hb2))
      · have hz : s[k] = 0 := by
          have h : ((s[k].toNat : Int) == 0) = true := by assumption
          have : s[k].toNat = 0 := by simpa using h
          exact UInt8.toNat_inj.1 this
        go_roundw
        case rel =>
          refine ⟨k + 1, by omega, by go_num, ?_, ((hbel.alloc (by omega) _).trans hb1).trans ((below_new _ _).mono (by have := hb1.size; simp at this ⊢; omega) |>.trans hb2)⟩
          rw [HS.out, if_pos hz]
          have := hR2
          rw [List.append_assoc] at this
          simpa using this
        case measure => simp [intOf]; omega
      · have hz : ¬ s[k] = 0 := by
          have h : ((s[k].toNat : Int) == 0) = false := by assumption
          intro he
          rw [he] at h
          cases h
        go_roundw
        case rel =>
          refine ⟨k + 1, by omega, by go_num, ?_, (hbel.alloc (by omega) _).trans hb1⟩
          rw [HS.out, if_neg hz]
          exact hR1
        case measure => simp [intOf]; omega
    · obtain rfl : k = s.size := by omega
      clear hR
      go_wp2_with (at_builtin; refine wpList_append_bytes rfl (.tmp 25) (.tmp 26) rfl _ B _ _ rfl (HR.out.alloc _) ⟨wr.heap.size, 0, none⟩ 2 2 [0, 1] rfl rfl (two_new _ _ _ _ _ _ rfl rfl) (by have := HL.out; simp only [List.length_cons, List.length_nil]; omega) (by simp; omega) ?_; intro v1 w1 hR1 hb1)
      go_ret
      refine ⟨_, rfl, ?_, (hbel.alloc (by omega) _).trans hb1⟩
      have := hR1
      rwa [List.take_of_length_le (by simp)] at this

theorem refEscaped_any (s : ByteArray) (hs : s.size ≤ 4000) (w : World) :
    Calls Tryd.prog 100 #[.string s] w fun e w' => ∃ v', e = .returned v' ∧ Row w' w.heap.size v' (esc s.data.toList ++ [0, 1]) ∧ Below w.heap.size w w' :=
  refEscaped_B s hs w w.heap.size (hid rfl)

end Go.Proofs.YtpjkhholpbfbpaaDoor
