/- float.parse and float.Read at every text of at most a thousand bytes. Conditions: strconv.ErrSyntax and strconv.ErrRange hold some error; the table of math/bits reads as it is laid. -/
import Derived.Test.YtgahljgmgdjjdaaGreatDoorFV
namespace Go.Proofs.YtgahljgmgdjjdaaGreatDoor
open Go.RowKit

/-- What parse answers: a number of 64 bits and whether there is one; if so, the text isn't a lone question mark. -/
def ParseEnd (s : ByteArray) (w : World) (e : Ending) (w' : World) : Prop :=
  (∃ (u : Nat) (ok : Bool), e = .returned (.tuple #[.int .u64 u, .bool ok]) ∧ (ok = true → u < 18446744073709551616 ∧ s.data.toList ≠ [63])) ∧ Below w.heap.size w w'

set_option maxHeartbeats 1000000 in
theorem parse_x_bad (l : List UInt8) (hl : l.length ≤ 999) (hbad : l = [] ∨ hexGo l 0 = .syn ∨ hexGo l 0 = .rng) (w : World) (he : ErrsIn w) :
    Calls Tryz.prog 85 #[.string ⟨(120 :: l).toArray⟩] w fun e w' => (∃ u : Nat, e = .returned (.tuple #[.int .u64 u, .bool false])) ∧ Below w.heap.size w w' := by
  have ht : (⟨(120 :: l).toArray⟩ : ByteArray).toList = 120 :: l := mk_toList _
  obtain ⟨s, hs⟩ : ∃ s : ByteArray, (⟨(120 :: l).toArray⟩ : ByteArray) = s := ⟨_, rfl⟩
  rw [hs] at ht ⊢
  have hsz : s.size = l.length + 1 := by rw [← hs]; simp [ByteArray.size]
  have hd : (s.extract 1 s.size).data.toList = l := by
    rw [Lib.extract_data, ← hs]; simp [ByteArray.size]
  have hp1 : (⟨#[120]⟩ : ByteArray).size = 1 := rfl
  have hp2 : (⟨#[120]⟩ : ByteArray).toList = [120] := by decide +kernel
  have HCut : Hid (Calls Tryz.prog 86 #[.string s, .string ⟨#[120]⟩] w fun e w' => e = .returned (.tuple #[.string (s.extract 1 s.size), .bool true]) ∧ w = w') := by
    have := cutPrefix_yes s ⟨#[120]⟩ (by unfold maxLen; omega) (by decide) (by rw [hp1]; omega) (by rw [hp2, hp1, ByteArray.toList_eq, Lib.extract_data, ← ByteArray.toList_eq, ht]; rfl) w
    rwa [hp1] at this
  have HP : Hid (Calls Tryz.prog 101 #[.string (s.extract 1 s.size), .int .i64 16, .int .i64 64] w fun e w' => (∃ u N : Nat, e = .returned (.tuple #[.int .u64 u, .iface 118 (.pointer (some ⟨N, 0, none⟩))])) ∧ Below w.heap.size w w') := by
    refine parseUint_bad _ ?_ ?_ w he
    · rw [Lib.size_eq, hd]; omega
    · rcases hbad with h | h | h
      · refine Or.inl ?_
        rw [ByteArray.toList_eq, hd, h]; rfl
      · exact Or.inr (Or.inl (by rw [hd]; exact h))
      · exact Or.inr (Or.inr (by rw [hd]; exact h))
  have n1 : (s.toList == [110, 97, 110]) = false := by rw [ht]; rfl
  have n2 : (s.toList == [105, 110, 102]) = false := by rw [ht]; rfl
  have n3 : (s.toList == [45, 105, 110, 102]) = false := by rw [ht]; rfl
  have n4 : (s.toList == [48]) = false := by rw [ht]; rfl
  have n5 : (s.toList == [45, 48]) = false := by rw [ht]; rfl
  clear ht hs hsz hd hp1 hp2 hbad hl he
  go_enter Tryz.func85, Tryz.ntmps85
  go_wp2_with (first | (go_at_call 86; refine HCut.out.mono ?_; rintro e w' ⟨rfl, rfl⟩) | (go_at_call 101; refine HP.out.mono ?_; rintro e w' ⟨⟨u, N, rfl⟩, hb⟩))
  go_quiet (fail)
  go_wp2
  go_ret2
  exact ⟨⟨_, rfl⟩, below_drewN (by assumption) _⟩

set_option maxHeartbeats 1000000 in
theorem parse_other (s : ByteArray) (hs : s.size ≤ 1000) (n1 : (s.toList == [110, 97, 110]) = false) (n2 : (s.toList == [105, 110, 102]) = false) (n3 : (s.toList == [45, 105, 110, 102]) = false) (n4 : (s.toList == [48]) = false) (n5 : (s.toList == [45, 48]) = false)
    (h : 1 ≤ s.size → ((s.extract 0 1).toList == [120]) = false) (w : World) :
    Calls Tryz.prog 85 #[.string s] w fun e w' => e = .returned (.tuple #[.int .u64 0, .bool false]) ∧ w = w' := by
  have hp1 : (⟨#[120]⟩ : ByteArray).size = 1 := rfl
  have hp2 : (⟨#[120]⟩ : ByteArray).toList = [120] := by decide +kernel
  have HCut : Hid (Calls Tryz.prog 86 #[.string s, .string ⟨#[120]⟩] w fun e w' => e = .returned (.tuple #[.string s, .bool false]) ∧ w = w') :=
    cutPrefix_no s ⟨#[120]⟩ (by unfold maxLen; omega) (by decide) (by rw [hp1, hp2]; exact h) w
  clear h hp1 hp2
  go_enter Tryz.func85, Tryz.ntmps85
  go_wp2_with (go_at_call 86; refine HCut.out.mono ?_; rintro e w' ⟨rfl, rfl⟩)
  go_ret2
  exact ⟨rfl, rfl⟩

theorem hexGo_lt (l : List UInt8) : ∀ (n m : Nat), n < 18446744073709551616 → hexGo l n = .ok m → m < 18446744073709551616 := by
  induction l with
  | nil => intro n m hn h; simp only [hexGo, HexR.ok.injEq] at h; omega
  | cons c u ih =>
    intro n m hn h
    simp only [hexGo] at h
    cases hc : hexD c with
    | none => rw [hc] at h; simp at h
    | some d =>
      rw [hc] at h
      simp only at h
      by_cases h1 : 16 ≤ d
      · rw [if_pos h1] at h; cases h
      · rw [if_neg h1] at h
        by_cases h2 : 1152921504606846976 ≤ n
        · rw [if_pos h2] at h; cases h
        · rw [if_neg h2] at h
          exact ih _ _ (by omega) h

theorem parse_any (l : List UInt8) (hl : l.length ≤ 1000) (w : World) (he : ErrsIn w) :
    Calls Tryz.prog 85 #[.string ⟨l.toArray⟩] w (ParseEnd ⟨l.toArray⟩ w) := by
  have yes : ∀ {x : List UInt8} {u : Nat}, u < 18446744073709551616 → x ≠ [63] → ∀ (e : Ending) (w' : World), e = .returned (.tuple #[.int .u64 u, .bool true]) ∧ Below w.heap.size w w' → ParseEnd ⟨x.toArray⟩ w e w' :=
    fun hu hx e w' ⟨h, hb⟩ => ⟨⟨_, true, h, fun _ => ⟨hu, hx⟩⟩, hb⟩
  have yes0 : ∀ {x : List UInt8} {u : Nat}, u < 18446744073709551616 → x ≠ [63] → ∀ (e : Ending) (w' : World), e = .returned (.tuple #[.int .u64 u, .bool true]) ∧ w = w' → ParseEnd ⟨x.toArray⟩ w e w' :=
    fun hu hx e w' ⟨h, hb⟩ => by subst hb; exact ⟨⟨_, true, h, fun _ => ⟨hu, hx⟩⟩, Below.refl _ _⟩
  by_cases h1 : l = nanT
  · subst h1; exact (parse_nan w).mono (yes0 (u := 9221120237041090560) (by omega) (by decide))
  by_cases h2 : l = infT
  · subst h2; exact (parse_inf w).mono (yes0 (u := 9218868437227405312) (by omega) (by decide))
  by_cases h3 : l = minfT
  · subst h3; exact (parse_minf w).mono (yes0 (u := 18442240474082181120) (by omega) (by decide))
  by_cases h4 : l = zeroT
  · subst h4; exact (parse_zero w).mono (yes0 (u := 0) (by omega) (by decide))
  by_cases h5 : l = mzeroT
  · subst h5; exact (parse_mzero w).mono (yes0 (u := 9223372036854775808) (by omega) (by decide))
  by_cases hx : ∃ m, l = 120 :: m
  · obtain ⟨m, rfl⟩ := hx
    have hm : m.length ≤ 999 := by simpa using hl
    have bad : (m = [] ∨ hexGo m 0 = .syn ∨ hexGo m 0 = .rng) → Calls Tryz.prog 85 #[.string ⟨(120 :: m).toArray⟩] w (ParseEnd ⟨(120 :: m).toArray⟩ w) := fun hb => by
      refine (parse_x_bad m hm hb w he).mono ?_
      rintro e w' ⟨⟨u, h⟩, hbel⟩
      exact ⟨⟨u, false, h, fun h => by cases h⟩, hbel⟩
    cases hg : hexGo m 0 with
    | ok n =>
      by_cases hm0 : m = []
      · exact bad (Or.inl hm0)
      · exact (parse_hex m (by omega) hm0 n hg w).mono (yes (hexGo_lt m 0 n (by omega) hg) (by intro h; cases h))
    | syn => exact bad (Or.inr (Or.inl hg))
    | rng => exact bad (Or.inr (Or.inr hg))
  · have ne : ∀ {x : List UInt8}, l ≠ x → ((⟨l.toArray⟩ : ByteArray).toList == x) = false := fun h => by rw [mk_toList]; simpa using h
    refine (parse_other ⟨l.toArray⟩ (by simpa [ByteArray.size] using hl) (ne h1) (ne h2) (ne h3) (ne h4) (ne h5) ?_ w).mono ?_
    · intro _
      rw [ByteArray.toList_eq, Lib.extract_data]
      cases l with
      | nil => rfl
      | cons c m =>
        have : c ≠ 120 := fun e => hx ⟨m, by rw [e]⟩
        simpa using this
    · rintro e w' ⟨rfl, rfl⟩
      exact ⟨⟨0, false, rfl, fun h => by cases h⟩, Below.refl _ _⟩

end Go.Proofs.YtgahljgmgdjjdaaGreatDoor
