/- The document's Quoted, for every text of at most a thousand bytes. Conditions: the length alone. -/
import Derived.Test.YtgahljgmgdjjdaaGreatDoorVG
import Derived.Test.YtgahljgmgdjjdaaGreatDoorVF
import Derived.IntWalk
namespace Go.Proofs.YtgahljgmgdjjdaaGreatDoor
open Go.RowKit

set_option maxHeartbeats 2000000 in
set_option maxRecDepth 100000 in
theorem refQuoted_any (s : ByteArray) (hs : s.size ≤ 1000) (w : World) :
    Calls Tryz.prog 44 #[.string s] w fun e w' => e = .returned (.string ⟨(34 :: (quo s.data.toList ++ [34])).toArray⟩) ∧ Below w.heap.size w w' := by
  have HR0 : Hid (Row (w.alloc (.cells #[.int .u8 34] 5)) w.heap.size (.slice (some ⟨w.heap.size, 0, none⟩) 1 1) [34]) := kind_row w w.heap.size (Nat.le_refl _) 34 (by decide)
  go_enter Tryz.func44, Tryz.ntmps44
  go_wp2
  go_loopw [3, 4] (fun vb vi wr => ∃ k : Nat, k ≤ s.size ∧ vi = .int .i64 k ∧ Row wr w.heap.size vb (34 :: quo (s.data.toList.take k)) ∧ Below w.heap.size w wr) (fun _ vi _ => s.size - (intOf vi).toNat)
  case atStart => exact ⟨0, by omega, rfl, by simpa [quo] using HR0.out, below_new _ _⟩
  case round =>
    obtain ⟨k, hk, rfl, hR, hbel⟩ := hrel
    by_cases hlt : k < s.size
    · obtain ⟨c, hcc⟩ : ∃ c, s[k].toNat = c := ⟨_, rfl⟩
      have hc256 : c < 256 := by rw [← hcc]; exact UInt8.toNat_lt _
      have hidx : ∀ W, (Instr.index 9 (.string s) (.int .i64 (k : Int))).run Tryz.prog W = .ok (.int .u8 (c : Int)) W := fun W => by
        rw [← hcc]
        exact string_at s k hlt W
      have HN : Hid (34 :: quo (s.data.toList.take (k + 1)) = (34 :: quo (s.data.toList.take k)) ++ (if plainB c = true then [UInt8.ofNat c] else [92, dg (c / 16), dg (c % 16)])) := by
        show _ = _
        rw [take_snoc s k hlt, quo_app]
        simp only [quo, quoB, hcc, List.append_nil, List.cons_append]
        rw [← hcc]
        simp
      have HL : Hid ((34 :: quo (s.data.toList.take k)).length ≤ 3001) := by
        show _ ≤ _
        have h1 := quo_len (s.data.toList.take k)
        have h2 : (s.data.toList.take k).length ≤ k := List.length_take_le _ _
        simp only [List.length_cons]
        omega
      have HR := hid hR
      clear hR
      clear hcc
      cases hp : plainB c
      · rw [hp] at HN
        have hpp : c < 32 ∨ (32 ≤ c ∧ 126 < c) ∨ (32 ≤ c ∧ c ≤ 126 ∧ c = 34) ∨ (32 ≤ c ∧ c ≤ 126 ∧ ¬ c = 34 ∧ c = 92) := by
          unfold plainB at hp
          simp at hp
          omega
        clear hp
        have hk0 : (0 : Int) ≤ (k : Int) := by omega
        have hk1 : (k : Int) < (s.size : Int) := by omega
        have hg1 : c / 16 < 16 := by omega
        have hg2 : c % 16 < 16 := by omega
        have hsel : (decide ((c : Int) < 32) = true) ∨ (decide ((c : Int) < 32) = false ∧ decide (126 < (c : Int)) = true) ∨ (decide ((c : Int) < 32) = false ∧ decide (126 < (c : Int)) = false ∧ ((c : Int) == 34) = true) ∨ (decide ((c : Int) < 32) = false ∧ decide (126 < (c : Int)) = false ∧ ((c : Int) == 34) = false ∧ ((c : Int) == 92) = true) := by
          rcases hpp with h | ⟨h1, h2⟩ | ⟨h1, h2, h3⟩ | ⟨h1, h2, h3, h4⟩
          · exact .inl (decide_eq_true (by omega))
          · exact .inr (.inl ⟨decide_eq_false (by omega), decide_eq_true (by omega)⟩)
          · exact .inr (.inr (.inl ⟨decide_eq_false (by omega), decide_eq_false (by omega), by simp; omega⟩))
          · exact .inr (.inr (.inr ⟨decide_eq_false (by omega), decide_eq_false (by omega), by simp; omega, by simp; omega⟩))
        clear hpp
        rcases hsel with e1 | ⟨e1, e2⟩ | ⟨e1, e2, e3⟩ | ⟨e1, e2, e3, e4⟩
        all_goals
          go_wp2
          have hh1 : ∀ W, (Instr.index 9 (.string ⟨#[48, 49, 50, 51, 52, 53, 54, 55, 56, 57, 97, 98, 99, 100, 101, 102]⟩) (.int .u8 ((c : Int) / 16))).run Tryz.prog W = .ok (.int .u8 ((dg (c / 16)).toNat : Int)) W := fun W => hex_at (c / 16) hg1 W
          have hh2 : ∀ W, (Instr.index 9 (.string ⟨#[48, 49, 50, 51, 52, 53, 54, 55, 56, 57, 97, 98, 99, 100, 101, 102]⟩) (.int .u8 ((c : Int) % 16))).run Tryz.prog W = .ok (.int .u8 ((dg (c % 16)).toNat : Int)) W := fun W => hex_at (c % 16) hg2 W
          have t1 : IntKind.u8.wrap ((c : Int).tdiv 16) = (c : Int) / 16 := IntWalk.u8_quo _ _ (by omega)
          have t2 : (c : Int).tmod 16 = (c : Int) % 16 := Int.tmod_eq_emod_of_nonneg (by omega)
          have t3 : IntKind.u8.wrap ((c : Int) % 16) = (c : Int) % 16 := IntWalk.u8_in _ (by omega)
          have t4 : IntKind.u8.wrap ((c : Int) / 16) = (c : Int) / 16 := IntWalk.u8_in _ (by omega)
          have t5 : (c : Int).tdiv 16 = (c : Int) / 16 := Int.tdiv_eq_ediv_of_nonneg (by omega)
          go_region_held3 (fun w' => True) (trivial) ((refine step_append_bytes (by rfl) (.tmp 30) (.tmp 37) (by rfl) _ w.heap.size _ _ (by rfl) ((HR.out.alloc _)) ⟨wr.heap.size, 0, none⟩ 3 3 [92, dg (c / 16), dg (c % 16)] (by rfl) (by rfl) (three_new _ _ _ _ _ _ _ _ rfl rfl rfl) (by have := HL.out; simp only [List.length_cons, List.length_nil] at *; omega) (by have := hbel.size; simp; omega) ?_; intro v1 w1 hR1 hb1))
          all_goals (
            go_wp2
            go_roundw
            case rel =>
              refine ⟨k + 1, by omega, by go_num, ?_, (hbel.alloc hbel.size _).drew.trans hb1⟩
              rw [HN.out, if_neg (by decide)]
              exact hR1
            case measure => simp [intOf]; omega)
      · rw [hp] at HN
        have hpp : 32 ≤ c ∧ c ≤ 126 ∧ ¬ c = 34 ∧ ¬ c = 92 := by
          unfold plainB at hp
          simp at hp
          omega
        have e1 : decide ((c : Int) < 32) = false := decide_eq_false (by omega)
        have e2 : decide (126 < (c : Int)) = false := decide_eq_false (by omega)
        have e3 : ((c : Int) == 34) = false := by simp; omega
        have e4 : ((c : Int) == 92) = false := by simp; omega
        clear hpp
        clear hp
        have HC1 : Hid ((c : Int) = ((UInt8.ofNat c).toNat : Int)) := by
          show _ = _
          rw [UInt8.toNat_ofNat']
          omega
        go_wp2_with (first | (at_builtin; refine wpList_append_bytes rfl (.tmp 39) (.tmp 41) rfl _ w.heap.size _ _ rfl (HR.out.alloc _) ⟨wr.heap.size, 0, none⟩ 1 1 [UInt8.ofNat c] rfl rfl (one_new' _ _ _ _ HC1.out) (by have := HL.out; simp only [List.length_cons, List.length_nil] at *; omega) (by have := hbel.size; simp; omega) ?_; intro v1 w1 hR1 hb1))
        go_roundw
        case rel =>
          refine ⟨k + 1, by omega, by go_num, ?_, (hbel.alloc hbel.size _).trans hb1⟩
          rw [HN.out, if_pos rfl]
          exact hR1
        case measure => simp [intOf]; omega
    · obtain rfl : k = s.size := by omega
      have HR := hid hR
      clear hR
      have HL : Hid ((34 :: quo (s.data.toList.take s.size)).length ≤ 3001) := by
        show _ ≤ _
        have h1 := quo_len (s.data.toList.take s.size)
        have h2 : (s.data.toList.take s.size).length ≤ s.size := List.length_take_le _ _
        simp only [List.length_cons]
        omega
      go_wp2_with (at_builtin; refine wpList_append_bytes rfl (.tmp 43) (.tmp 44) rfl _ w.heap.size _ _ rfl (HR.out.alloc _) ⟨wr.heap.size, 0, none⟩ 1 1 [34] rfl rfl (one_new' _ _ _ _ rfl) (by have := HL.out; simp only [List.length_cons, List.length_nil] at *; omega) (by have := hbel.size; simp; omega) ?_; intro v1 w1 hR1 hb1; have hcv := row_convert hR1)
      go_ret
      refine ⟨?_, (hbel.alloc hbel.size _).trans hb1⟩
      rw [List.take_of_length_le (by simp)]
      rfl

end Go.Proofs.YtgahljgmgdjjdaaGreatDoor
