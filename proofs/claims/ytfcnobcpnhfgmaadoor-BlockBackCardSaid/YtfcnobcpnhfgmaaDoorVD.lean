/- val.appendText for every text of at most a thousand bytes. Conditions: the row is the call's own. -/
import Derived.Test.YtfcnobcpnhfgmaaDoorVC
namespace Go.Proofs.YtfcnobcpnhfgmaaDoor
open Go.RowKit

theorem take_snoc (s : ByteArray) (k : Nat) (h : k < s.size) : s.data.toList.take (k + 1) = s.data.toList.take k ++ [s[k]] := by
  rw [List.take_succ_eq_append_getElem (by simpa using h)]; rfl
theorem esc_take_len (s : ByteArray) (k : Nat) (hk : k ≤ s.size) : (esc (s.data.toList.take k)).length ≤ 2 * s.size := by
  have h1 := esc_len (s.data.toList.take k)
  have h2 : (s.data.toList.take k).length ≤ k := List.length_take_le _ _
  omega
theorem esc_snoc (s : ByteArray) (k : Nat) (h : k < s.size) : esc (s.data.toList.take (k + 1)) = esc (s.data.toList.take k) ++ (if s[k] = 0 then [s[k], 255] else [s[k]]) := by
  rw [take_snoc s k h, esc_app]
  congr 1
  simp only [esc]
  split
  · rename_i h; rw [h]
  · rfl
theorem two_new (w : World) (c d : UInt8) (t : TypeId) (x y : Int) (hx : x = (c.toNat : Int)) (hy : y = (d.toNat : Int)) : ∀ j u, (bc [c, d])[j]? = some u → (w.alloc (.cells #[.int .u8 x, .int .u8 y] t)).cell? ((⟨w.heap.size, 0, Option.none⟩ : Addr).add j) = some u := by
  subst hx hy
  intro j u hu
  have hj : j < 2 := by
    rcases Nat.lt_or_ge j 2 with h | h
    · exact h
    · rw [List.getElem?_eq_none (by simpa [bc] using h)] at hu; cases hu
  rw [add_zero_off, World.cell?_alloc_at _ _ _ _ rfl, ← hu]
  rcases (show j = 0 ∨ j = 1 by omega) with rfl | rfl <;> rfl

set_option maxHeartbeats 1000000 in
theorem appendText_any (s : ByteArray) (hs : s.size ≤ 1000) (B : Nat) (v : Value) (l : List UInt8) (hl : l.length ≤ 1000) (w : World) (hown : Row w B v l) (hB : B ≤ w.heap.size) :
    Calls Tryd.prog 97 #[v, .string s] w fun e w' => ∃ v', e = .returned v' ∧ Row w' B v' (l ++ (esc s.data.toList ++ [0, 1])) ∧ Below B w w' := by
  go_enter Tryd.func97, Tryd.ntmps97
  go_wp2
  go_loopw [0, 8] (fun vb vi wr => ∃ k : Nat, k ≤ s.size ∧ vi = .int .i64 k ∧ Row wr B vb (l ++ esc (s.data.toList.take k)) ∧ Below B w wr) (fun _ vi _ => s.size - (intOf vi).toNat)
  case atStart => exact ⟨0, by omega, rfl, by simpa [esc] using hown, Below.refl _ _⟩
  case round =>
    obtain ⟨k, hk, rfl, hR, hbel⟩ := hrel
    have HR := hid hR
    have HL : Hid ((l ++ esc (s.data.toList.take k)).length ≤ 3000) := by
      have := esc_take_len s k hk
      unfold Hid
      rw [List.length_append]
      omega
    by_cases hlt : k < s.size
    · have HS := hid (esc_snoc s k hlt)
      clear hR
      go_wp2_with (first | (at_builtin; refine wpList_append_bytes rfl (.tmp 11) (.tmp 15) rfl _ B _ _ rfl (HR.out.alloc _) ⟨wr.heap.size, 0, none⟩ 1 1 [s[k]] rfl rfl (one_new' _ _ _ _ rfl) (by have := HL.out; simp only [List.length_cons, List.length_nil]; omega) (by have := hbel.size; simp; omega) ?_; intro v1 w1 hR1 hb1) | (at_builtin; refine wpList_append_bytes rfl (.tmp 21) (.tmp 22) rfl _ B _ _ rfl (hR1.alloc _) ⟨w1.heap.size, 0, none⟩ 1 1 [255] rfl rfl (one_new' _ _ _ _ rfl) (by have := HL.out; simp only [List.length_append, List.length_cons, List.length_nil] at this ⊢; omega) (by have := hbel.size; have := hb1.size; simp at this ⊢; omega) ?_; intro v2 w2 hR2 hb2))
      · have hz : s[k] = 0 := by
          have h : ((s[k].toNat : Int) == 0) = true := by assumption
          have : s[k].toNat = 0 := by simpa using h
          exact UInt8.toNat_inj.1 this
        go_roundw
        case rel =>
          refine ⟨k + 1, by omega, by go_num, ?_, ((hbel.alloc (by have := hbel.size; omega) _).trans hb1).trans ((below_new _ _).mono (by have := hbel.size; have := hb1.size; simp at this ⊢; omega) |>.trans hb2)⟩
          rw [HS.out, if_pos hz, ← List.append_assoc]
          have := hR2
          rw [List.append_assoc] at this ⊢
          simpa using this
        case measure => simp [intOf]; omega
      · have hz : ¬ s[k] = 0 := by
          have h : ((s[k].toNat : Int) == 0) = false := by assumption
          intro he
          rw [he] at h
          cases h
        go_roundw
        case rel =>
          refine ⟨k + 1, by omega, by go_num, ?_, (hbel.alloc (by have := hbel.size; omega) _).trans hb1⟩
          rw [HS.out, if_neg hz, ← List.append_assoc]
          exact hR1
        case measure => simp [intOf]; omega
    · obtain rfl : k = s.size := by omega
      clear hR
      go_wp2_with (at_builtin; refine wpList_append_bytes rfl (.tmp 25) (.tmp 26) rfl _ B _ _ rfl (HR.out.alloc _) ⟨wr.heap.size, 0, none⟩ 2 2 [0, 1] rfl rfl (two_new _ _ _ _ _ _ rfl rfl) (by have := HL.out; simp only [List.length_cons, List.length_nil]; omega) (by have := hbel.size; simp; omega) ?_; intro v1 w1 hR1 hb1)
      go_ret
      refine ⟨_, rfl, ?_, (hbel.alloc (by have := hbel.size; omega) _).trans hb1⟩
      have := hR1
      rwa [List.take_of_length_le (by simp), List.append_assoc] at this

end Go.Proofs.YtfcnobcpnhfgmaaDoor
