/- The document's Texts at every two texts. Conditions: texts no longer than any are. -/
import Derived.Test.YtofkfafdodhmdaaSLd
import Derived.Lib.Bytealg
import Derived.Deep.QuietTactic
import Derived.BigQuiet
namespace Go.Proofs.Ytofkfafdodhmdaa
open Go.RowKit

theorem ret_i64 {k : IntKind} {a b : Int} (h : a = b) : Ending.returned (.int k a) = .returned (.int k b) := by rw [h]

theorem cmpB_drop (l m : List UInt8) (k : Nat) (h : k < l.length) (h' : k < m.length) :
    Lib.compareBytes (l.drop k) (m.drop k) = if (l.getD k 0).toNat < (m.getD k 0).toNat then -1 else if (m.getD k 0).toNat < (l.getD k 0).toNat then 1 else Lib.compareBytes (l.drop (k + 1)) (m.drop (k + 1)) := by
  rw [List.drop_eq_getElem_cons h, List.drop_eq_getElem_cons h']
  conv => lhs; unfold Lib.compareBytes
  simp only [List.getD_eq_getElem?_getD, List.getElem?_eq_getElem h, List.getElem?_eq_getElem h', Option.getD_some, UInt8.lt_iff_toNat_lt]

theorem cmpB_end (l m : List UInt8) (h : l = [] ∨ m = []) : Lib.compareBytes l m = if l.length < m.length then -1 else if m.length < l.length then 1 else 0 := by
  rcases h with rfl | rfl
  · cases m with
    | nil => rfl
    | cons => simp [Lib.compareBytes]
  · cases l with
    | nil => rfl
    | cons => simp [Lib.compareBytes]

/-- What the loop knows. -/
def XInv (s t : ByteArray) (w : World) (vi : Value) (wr : World) : Prop :=
  ∃ (i m : Nat), i ≤ s.size ∧ i ≤ t.size ∧ vi = .int .i64 i ∧ wr = w.drewN m ∧ Lib.compareBytes s.data.toList t.data.toList = Lib.compareBytes (s.data.toList.drop i) (t.data.toList.drop i)

theorem dl (s : ByteArray) : s.data.toList.length = s.size := rfl
theorem getD_str (s : ByteArray) (i : Nat) (h : i < s.size) : s.data.toList.getD i 0 = s[i] := by
  rw [List.getD_eq_getElem?_getD, List.getElem?_eq_getElem (show i < s.data.toList.length from h)]
  rfl

theorem drew_ex (w : World) (n : Nat) : ∃ m, w.drewN n = w.drewN m := ⟨n, rfl⟩

set_option maxHeartbeats 2000000 in
theorem texts_quiet (s t : ByteArray) (hs : s.size ≤ 9223372036854775807) (_ : t.size ≤ 9223372036854775807) (w : World) :
    Calls Try.prog 29 #[.string s, .string t] w fun e w' => e = .returned (.int .i64 (Lib.compareBytes s.data.toList t.data.toList)) ∧ ∃ m, w' = w.drewN m := by
  go_enter Try.func29, Try.ntmps29
  go_wp2
  go_loopw [5] (fun vi wr => XInv s t w vi wr) (fun vi _ => s.size - (intOf vi).toNat)
  case atStart => exact ⟨0, 0, Nat.zero_le _, Nat.zero_le _, rfl, rfl, rfl⟩
  case round =>
    obtain ⟨i, m, hi1, hi2, rfl, rfl, hc⟩ := hrel
    by_cases hlt : i < s.size ∧ i < t.size
    · obtain ⟨h1, h2⟩ := hlt
      have hd := cmpB_drop s.data.toList t.data.toList i h1 h2
      rw [getD_str s i h1, getD_str t i h2] at hd
      have HD := hid (hc.trans hd)
      clear hd hc
      by_cases c0 : s[i].toNat = t[i].toNat
      · have q0 : (s[i].toNat != t[i].toNat) = false := by simpa using c0
        have HQ : Hid (Lib.compareBytes s.data.toList t.data.toList = Lib.compareBytes (s.data.toList.drop (i + 1)) (t.data.toList.drop (i + 1))) := by
          have := HD.out
          rw [if_neg (by omega), if_neg (by omega)] at this
          exact this
        clear HD
        go_wp2
        go_quiet (fail)
        go_wp2
        go_roundw
        case rel => exact ⟨i + 1, _, by omega, by omega, by go_num, rfl, HQ.out⟩
        case measure => simp [intOf]; omega
      · have q0 : (s[i].toNat != t[i].toNat) = true := by simpa using c0
        by_cases c1 : s[i].toNat < t[i].toNat
        · have HQ : Hid (Lib.compareBytes s.data.toList t.data.toList = -1) := by
            have := HD.out
            rw [if_pos c1] at this
            exact this
          have q1 : decide (s[i].toNat < t[i].toNat) = true := decide_eq_true c1
          clear HD c0
          go_wp2
          go_quiet (fail)
          go_wp2
          go_quiet (fail)
          go_wp2
          go_ret
          exact ⟨ret_i64 HQ.out.symm, by first | exact drew_ex w _ | (simp only [World.drewN_drewN]; exact drew_ex w _)⟩
        · have HQ : Hid (Lib.compareBytes s.data.toList t.data.toList = 1) := by
            have := HD.out
            rw [if_neg c1, if_pos (by omega)] at this
            exact this
          have q1 : decide (s[i].toNat < t[i].toNat) = false := decide_eq_false c1
          clear HD c0
          go_wp2
          go_quiet (fail)
          go_wp2
          go_quiet (fail)
          go_wp2
          go_ret
          exact ⟨ret_i64 HQ.out.symm, by first | exact drew_ex w _ | (simp only [World.drewN_drewN]; exact drew_ex w _)⟩
    · have hq : Lib.compareBytes s.data.toList t.data.toList = if s.size < t.size then -1 else if t.size < s.size then 1 else 0 := by
        rw [hc, cmpB_end _ _ (by rcases (show i = s.size ∨ i = t.size by omega) with rfl | rfl <;> simp)]
        simp only [List.length_drop, dl]
        by_cases z1 : s.size < t.size
        · rw [if_pos (by omega), if_pos z1]
        · rw [if_neg (by omega), if_neg z1]
          by_cases z2 : t.size < s.size
          · rw [if_pos (by omega), if_pos z2]
          · rw [if_neg (by omega), if_neg z2]
      have hsel : (i < s.size ∧ decide (i < t.size) = false) ∨ i = s.size := by
        rcases Nat.lt_or_ge i s.size with h | h
        · exact .inl ⟨h, decide_eq_false (by omega)⟩
        · exact .inr (by omega)
      clear hc hlt
      rcases (show s.size < t.size ∨ t.size < s.size ∨ s.size = t.size by omega) with z | z | z
      · rw [if_pos z] at hq
        have HQ := hid hq
        have d1 : decide (s.size < t.size) = true := decide_eq_true z
        clear hq
        rcases hsel with ⟨h1, h2⟩ | rfl
        all_goals
          go_wp2
          go_ret
          exact ⟨ret_i64 HQ.out.symm, by first | exact drew_ex w _ | (simp only [World.drewN_drewN]; exact drew_ex w _)⟩
      · rw [if_neg (by omega), if_pos z] at hq
        have HQ := hid hq
        have d1 : decide (s.size < t.size) = false := decide_eq_false (by omega)
        have d2 : decide (t.size < s.size) = true := decide_eq_true z
        clear hq
        rcases hsel with ⟨h1, h2⟩ | rfl
        all_goals
          go_wp2
          go_ret
          exact ⟨ret_i64 HQ.out.symm, by first | exact drew_ex w _ | (simp only [World.drewN_drewN]; exact drew_ex w _)⟩
      · rw [if_neg (by omega), if_neg (by omega)] at hq
        have HQ := hid hq
        have d1 : decide (s.size < t.size) = false := decide_eq_false (by omega)
        have d2 : decide (t.size < s.size) = false := decide_eq_false (by omega)
        clear hq z
        rcases hsel with ⟨h1, h2⟩ | rfl
        all_goals
          go_wp2
          go_ret
          exact ⟨ret_i64 HQ.out.symm, by first | exact drew_ex w _ | (simp only [World.drewN_drewN]; exact drew_ex w _)⟩
theorem texts_any (s t : ByteArray) (hs : s.size ≤ 9223372036854775807) (ht : t.size ≤ 9223372036854775807) (w : World) :
    Calls Try.prog 29 #[.string s, .string t] w fun e w' => e = .returned (.int .i64 (Lib.compareBytes s.data.toList t.data.toList)) ∧ Below w.heap.size w w' :=
  (texts_quiet s t hs ht w).mono fun _ _ ⟨he, m, hm⟩ => ⟨he, by rw [hm]; exact Go.below_drewN (Below.refl _ _) _⟩
end Go.Proofs.Ytofkfafdodhmdaa
