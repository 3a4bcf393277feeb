/- Several texts in one: FV FW FX FY FZ FAA. Conditions: as each theorem names them. -/
import Derived.Test.YtadehoibjpmhhaaGreatDoorMA
import Derived.Test.YtadehoibjpmhhaaGreatDoorShelf
import Derived.Test.YtadehoibjpmhhaaGreatDoorMB
import Derived.Deep.LoopGhost
import Derived.Test.YtadehoibjpmhhaaGreatDoorFP
/- strconv.ParseUint where it fails, and float.parse at every text of at most a thousand bytes. Conditions: strconv.ErrSyntax and strconv.ErrRange hold some error. -/
namespace Go.Proofs.YtadehoibjpmhhaaGreatDoor
open Go.RowKit

set_option maxHeartbeats 400000 in
set_option maxRecDepth 100000 in
theorem parseIn_empty (s : ByteArray) (hne : s.toList.isEmpty = true) (w : World) :
    Calls Tryz.prog 86 #[.string s, .int .i64 16, .int .i64 64] w fun e w' => e = .returned (.tuple #[.int .u64 0, .iface 102 (.int .i64 2)]) ∧ w = w' := by
  go_enter Tryz.func86, Tryz.ntmps86
  go_wp2
  go_ret2
  exact ⟨rfl, rfl⟩

set_option maxHeartbeats 1000000 in
theorem parseUint_bad (s : ByteArray) (hs : s.size ≤ 1000) (hbad : s.toList.isEmpty = true ∨ hexGo s.data.toList 0 = .syn ∨ hexGo s.data.toList 0 = .rng) (w : World) (he : ErrsIn w) :
    Calls Tryz.prog 82 #[.string s, .int .i64 16, .int .i64 64] w fun e w' => (∃ u N : Nat, e = .returned (.tuple #[.int .u64 u, .iface 103 (.pointer (some ⟨N, 0, none⟩))])) ∧ Below w.heap.size w w' := by
  have key : ∃ u k : Nat, (k = 1 ∨ k = 2) ∧ (Calls Tryz.prog 86 #[.string s, .int .i64 16, .int .i64 64] w fun e w' => e = .returned (.tuple #[.int .u64 u, .iface 102 (.int .i64 k)]) ∧ Below w.heap.size w w') := by
    by_cases hne : s.toList.isEmpty = true
    · refine ⟨0, 2, Or.inr rfl, (parseIn_empty s hne w).mono ?_⟩
      rintro e w' ⟨rfl, rfl⟩
      exact ⟨rfl, Below.refl _ _⟩
    · have h := parseIn s (by omega) (by simpa using hne) w
      rcases hbad with hb | hb | hb
      · exact absurd hb hne
      · rw [hb] at h
        exact ⟨0, 2, Or.inr rfl, h⟩
      · rw [hb] at h
        exact ⟨18446744073709551615, 1, Or.inl rfl, h⟩
  obtain ⟨u, k, hk, hcall⟩ := key
  have HC := hid hcall
  have HT : Hid (∀ W, Below w.heap.size w W → Calls Tryz.prog 70 #[.string ⟨#[80, 97, 114, 115, 101, 85, 105, 110, 116]⟩, .string s, .int .i64 16, .int .i64 64, .iface 102 (.int .i64 k)] W fun e w' => ∃ N : Nat, e = .returned (.iface 103 (.pointer (some ⟨N, 0, none⟩))) ∧ Below w.heap.size w w') := fun W hW => by
    obtain ⟨⟨t, p, h1⟩, ⟨t', p', h2⟩⟩ := he.below hW
    rcases hk with rfl | rfl
    · exact (Tryz.strconv_toError_range _ s 16 64 (.iface t' p') W (by omega) h2 (Or.inr ⟨t', p', rfl⟩)).mono fun e w' ⟨N, h, _, _, hb⟩ => ⟨N, h, hW.trans (hb.mono hW.size)⟩
    · exact (Tryz.strconv_toError_syntax _ s 16 64 (.iface t p) W (by omega) h1 (Or.inr ⟨t, p, rfl⟩)).mono fun e w' ⟨N, h, _, _, hb⟩ => ⟨N, h, hW.trans (hb.mono hW.size)⟩
  clear hcall hbad he hs hk
  go_enter Tryz.func82, Tryz.ntmps82
  go_wp2_with (first | (go_at_call 86; refine HC.out.mono ?_; rintro e w1 ⟨rfl, hb1⟩) | (go_at_call 70; refine (HT.out _ (by assumption)).mono ?_; rintro e w2 ⟨N, rfl, hb2⟩))
  go_ret2
  exact ⟨⟨u, _, rfl⟩, by assumption⟩

end Go.Proofs.YtadehoibjpmhhaaGreatDoor

/- float.parse and float.Read at every text of at most a thousand bytes. Conditions: strconv.ErrSyntax and strconv.ErrRange hold some error; the table of math/bits reads as it is laid. -/
namespace Go.Proofs.YtadehoibjpmhhaaGreatDoor
open Go.RowKit

/-- What parse answers: a number of 64 bits and whether there is one; if so, the text isn't a lone question mark. -/
def ParseEnd (s : ByteArray) (w : World) (e : Ending) (w' : World) : Prop :=
  (∃ (u : Nat) (ok : Bool), e = .returned (.tuple #[.int .u64 u, .bool ok]) ∧ (ok = true → u < 18446744073709551616 ∧ s.data.toList ≠ [63])) ∧ Below w.heap.size w w'

set_option maxHeartbeats 1000000 in
theorem parse_x_bad (l : List UInt8) (hl : l.length ≤ 999) (hbad : l = [] ∨ hexGo l 0 = .syn ∨ hexGo l 0 = .rng) (w : World) (he : ErrsIn w) :
    Calls Tryz.prog 65 #[.string ⟨(120 :: l).toArray⟩] w fun e w' => (∃ u : Nat, e = .returned (.tuple #[.int .u64 u, .bool false])) ∧ Below w.heap.size w w' := by
  have ht : (⟨(120 :: l).toArray⟩ : ByteArray).toList = 120 :: l := mk_toList _
  obtain ⟨s, hs⟩ : ∃ s : ByteArray, (⟨(120 :: l).toArray⟩ : ByteArray) = s := ⟨_, rfl⟩
  rw [hs] at ht ⊢
  have hsz : s.size = l.length + 1 := by rw [← hs]; simp [ByteArray.size]
  have hd : (s.extract 1 s.size).data.toList = l := by
    rw [Lib.extract_data, ← hs]; simp [ByteArray.size]
  have hp1 : (⟨#[120]⟩ : ByteArray).size = 1 := rfl
  have hp2 : (⟨#[120]⟩ : ByteArray).toList = [120] := by decide +kernel
  have HCut : Hid (Calls Tryz.prog 66 #[.string s, .string ⟨#[120]⟩] w fun e w' => e = .returned (.tuple #[.string (s.extract 1 s.size), .bool true]) ∧ w = w') := by
    have := cutPrefix_yes s ⟨#[120]⟩ (by unfold maxLen; omega) (by decide) (by rw [hp1]; omega) (by rw [hp2, hp1, ByteArray.toList_eq, Lib.extract_data, ← ByteArray.toList_eq, ht]; rfl) w
    rwa [hp1] at this
  have HP : Hid (Calls Tryz.prog 82 #[.string (s.extract 1 s.size), .int .i64 16, .int .i64 64] w fun e w' => (∃ u N : Nat, e = .returned (.tuple #[.int .u64 u, .iface 103 (.pointer (some ⟨N, 0, none⟩))])) ∧ Below w.heap.size w w') := by
    refine parseUint_bad _ ?_ ?_ w he
    · rw [Lib.size_eq, hd]; omega
    · rcases hbad with h | h | h
      · refine Or.inl ?_
        rw [ByteArray.toList_eq, hd, h]; rfl
      · exact Or.inr (Or.inl (by rw [hd]; exact h))
      · exact Or.inr (Or.inr (by rw [hd]; exact h))
  have n1 : (s.toList == [110, 97, 110]) = false := by rw [ht]; rfl
  have n2 : (s.toList == [105, 110, 102]) = false := by rw [ht]; rfl
  have n3 : (s.toList == [45, 105, 110, 102]) = false := by rw [ht]; rfl
  have n4 : (s.toList == [48]) = false := by rw [ht]; rfl
  have n5 : (s.toList == [45, 48]) = false := by rw [ht]; rfl
  clear ht hs hsz hd hp1 hp2 hbad hl he
  go_enter Tryz.func65, Tryz.ntmps65
  go_wp2_with (first | (go_at_call 66; refine HCut.out.mono ?_; rintro e w' ⟨rfl, rfl⟩) | (go_at_call 82; refine HP.out.mono ?_; rintro e w' ⟨⟨u, N, rfl⟩, hb⟩))
  go_quiet (fail)
  go_wp2
  go_ret2
  exact ⟨⟨_, rfl⟩, below_drewN (by assumption) _⟩

set_option maxHeartbeats 1000000 in
theorem parse_other (s : ByteArray) (hs : s.size ≤ 1000) (n1 : (s.toList == [110, 97, 110]) = false) (n2 : (s.toList == [105, 110, 102]) = false) (n3 : (s.toList == [45, 105, 110, 102]) = false) (n4 : (s.toList == [48]) = false) (n5 : (s.toList == [45, 48]) = false)
    (h : 1 ≤ s.size → ((s.extract 0 1).toList == [120]) = false) (w : World) :
    Calls Tryz.prog 65 #[.string s] w fun e w' => e = .returned (.tuple #[.int .u64 0, .bool false]) ∧ w = w' := by
  have hp1 : (⟨#[120]⟩ : ByteArray).size = 1 := rfl
  have hp2 : (⟨#[120]⟩ : ByteArray).toList = [120] := by decide +kernel
  have HCut : Hid (Calls Tryz.prog 66 #[.string s, .string ⟨#[120]⟩] w fun e w' => e = .returned (.tuple #[.string s, .bool false]) ∧ w = w') :=
    cutPrefix_no s ⟨#[120]⟩ (by unfold maxLen; omega) (by decide) (by rw [hp1, hp2]; exact h) w
  clear h hp1 hp2
  go_enter Tryz.func65, Tryz.ntmps65
  go_wp2_with (go_at_call 66; refine HCut.out.mono ?_; rintro e w' ⟨rfl, rfl⟩)
  go_ret2
  exact ⟨rfl, rfl⟩

theorem hexGo_lt (l : List UInt8) : ∀ (n m : Nat), n < 18446744073709551616 → hexGo l n = .ok m → m < 18446744073709551616 := by
  induction l with
  | nil => intro n m hn h; simp only [hexGo, HexR.ok.injEq] at h; omega
  | cons c u ih =>
    intro n m hn h
    simp only [hexGo] at h
    cases hc : hexD c with
    | none => rw [hc] at h; simp at h
    | some d =>
      rw [hc] at h
      simp only at h
      by_cases h1 : 16 ≤ d
      · rw [if_pos h1] at h; cases h
      · rw [if_neg h1] at h
        by_cases h2 : 1152921504606846976 ≤ n
        · rw [if_pos h2] at h; cases h
        · rw [if_neg h2] at h
          exact ih _ _ (by omega) h

theorem parse_any (l : List UInt8) (hl : l.length ≤ 1000) (w : World) (he : ErrsIn w) :
    Calls Tryz.prog 65 #[.string ⟨l.toArray⟩] w (ParseEnd ⟨l.toArray⟩ w) := by
  have yes : ∀ {x : List UInt8} {u : Nat}, u < 18446744073709551616 → x ≠ [63] → ∀ (e : Ending) (w' : World), e = .returned (.tuple #[.int .u64 u, .bool true]) ∧ Below w.heap.size w w' → ParseEnd ⟨x.toArray⟩ w e w' :=
    fun hu hx e w' ⟨h, hb⟩ => ⟨⟨_, true, h, fun _ => ⟨hu, hx⟩⟩, hb⟩
  have yes0 : ∀ {x : List UInt8} {u : Nat}, u < 18446744073709551616 → x ≠ [63] → ∀ (e : Ending) (w' : World), e = .returned (.tuple #[.int .u64 u, .bool true]) ∧ w = w' → ParseEnd ⟨x.toArray⟩ w e w' :=
    fun hu hx e w' ⟨h, hb⟩ => by subst hb; exact ⟨⟨_, true, h, fun _ => ⟨hu, hx⟩⟩, Below.refl _ _⟩
  by_cases h1 : l = nanT
  · subst h1; exact (parse_nan w).mono (yes0 (u := 9221120237041090560) (by omega) (by decide))
  by_cases h2 : l = infT
  · subst h2; exact (parse_inf w).mono (yes0 (u := 9218868437227405312) (by omega) (by decide))
  by_cases h3 : l = minfT
  · subst h3; exact (parse_minf w).mono (yes0 (u := 18442240474082181120) (by omega) (by decide))
  by_cases h4 : l = zeroT
  · subst h4; exact (parse_zero w).mono (yes0 (u := 0) (by omega) (by decide))
  by_cases h5 : l = mzeroT
  · subst h5; exact (parse_mzero w).mono (yes0 (u := 9223372036854775808) (by omega) (by decide))
  by_cases hx : ∃ m, l = 120 :: m
  · obtain ⟨m, rfl⟩ := hx
    have hm : m.length ≤ 999 := by simpa using hl
    have bad : (m = [] ∨ hexGo m 0 = .syn ∨ hexGo m 0 = .rng) → Calls Tryz.prog 65 #[.string ⟨(120 :: m).toArray⟩] w (ParseEnd ⟨(120 :: m).toArray⟩ w) := fun hb => by
      refine (parse_x_bad m hm hb w he).mono ?_
      rintro e w' ⟨⟨u, h⟩, hbel⟩
      exact ⟨⟨u, false, h, fun h => by cases h⟩, hbel⟩
    cases hg : hexGo m 0 with
    | ok n =>
      by_cases hm0 : m = []
      · exact bad (Or.inl hm0)
      · exact (parse_hex m (by omega) hm0 n hg w).mono (yes (hexGo_lt m 0 n (by omega) hg) (by intro h; cases h))
    | syn => exact bad (Or.inr (Or.inl hg))
    | rng => exact bad (Or.inr (Or.inr hg))
  · have ne : ∀ {x : List UInt8}, l ≠ x → ((⟨l.toArray⟩ : ByteArray).toList == x) = false := fun h => by rw [mk_toList]; simpa using h
    refine (parse_other ⟨l.toArray⟩ (by simpa [ByteArray.size] using hl) (ne h1) (ne h2) (ne h3) (ne h4) (ne h5) ?_ w).mono ?_
    · intro _
      rw [ByteArray.toList_eq, Lib.extract_data]
      cases l with
      | nil => rfl
      | cons c m =>
        have : c ≠ 120 := fun e => hx ⟨m, by rw [e]⟩
        simpa using this
    · rintro e w' ⟨rfl, rfl⟩
      exact ⟨⟨0, false, rfl, fun h => by cases h⟩, Below.refl _ _⟩

end Go.Proofs.YtadehoibjpmhhaaGreatDoor

/- float.Read at every text that no right number is shown as; the document's From at every slice of bytes. Conditions: texts of at most a thousand bytes; the error variables hold errors; the table of math/bits reads as it is laid. -/
namespace Go.Proofs.YtadehoibjpmhhaaGreatDoor
open Go.RowKit

/-- No right number is shown so. -/
def NoneShows (l : List UInt8) : Prop := ∀ n, inI n → rightB n = true → showT n ≠ l

theorem wrap64_in (u : Nat) : inI (wrap64 u) := by unfold inI wrap64; omega

set_option maxHeartbeats 1000000 in
theorem read_no (l : List UInt8) (hl : l.length ≤ 1000) (hno : NoneShows l) (w : World) (he : ErrsIn w) (hc : w.cell? ⟨8, 15, none⟩ = some (.int .u8 4)) :
    Calls Tryz.prog 43 #[.string ⟨l.toArray⟩] w fun e w' => e = .returned (.tuple #[.int .i64 0, .bool false]) ∧ Below w.heap.size w w' := by
  have ht : (⟨l.toArray⟩ : ByteArray).toList = l := mk_toList _
  have HP : Hid (Calls Tryz.prog 65 #[.string ⟨l.toArray⟩] w fun e w' => ((∃ u : Nat, (u < 18446744073709551616 ∧ l ≠ [63]) ∧ e = .returned (.tuple #[.int .u64 u, .bool true])) ∨ (∃ u : Nat, e = .returned (.tuple #[.int .u64 u, .bool false]))) ∧ Below w.heap.size w w') := by
    refine (parse_any l hl w he).mono ?_
    rintro e w' ⟨⟨u, ok, h, hok⟩, hb⟩
    cases ok
    · exact ⟨Or.inr ⟨u, h⟩, hb⟩
    · obtain ⟨h1, h2⟩ := hok rfl
      exact ⟨Or.inl ⟨u, ⟨h1, h2⟩, h⟩, hb⟩
  have HS : Hid (∀ u : Nat, (u < 18446744073709551616 ∧ l ≠ [63]) → ∀ W, Below w.heap.size w W → Calls Tryz.prog 27 #[.int .i64 (wrap64 u)] W fun e w' => ∃ sh : ByteArray, e = .returned (.string sh) ∧ (sh.toList == (⟨l.toArray⟩ : ByteArray).toList) = false ∧ Below w.heap.size w w') := fun u hu W hW => by
    refine (show_carried (wrap64_in u) w W hc hW).mono ?_
    rintro e w' ⟨h, hb⟩
    refine ⟨_, h, ?_, hb⟩
    rw [mk_toList, ht]
    refine beq_eq_false_iff_ne.2 fun hsh => ?_
    cases hr : rightB (wrap64 u)
    · unfold showT at hsh
      rw [hr] at hsh
      exact hu.2 hsh.symm
    · exact hno _ (wrap64_in u) hr hsh
  obtain ⟨s, hs⟩ : ∃ s : ByteArray, (⟨l.toArray⟩ : ByteArray) = s := ⟨_, rfl⟩
  rw [hs] at HP HS ⊢
  clear ht hs he hc hl hno
  go_enter Tryz.func43, Tryz.ntmps43
  go_wp2_with (first | (go_at_call 65; refine HP.out.mono ?_; rintro e w1 ⟨⟨u, hu, rfl⟩ | ⟨u, rfl⟩, hb1⟩) | (go_at_call 27; refine (HS.out _ (by assumption) _ (by assumption)).mono ?_; rintro e w2 ⟨sh, rfl, hne, hb2⟩))
  all_goals go_ret2
  all_goals exact ⟨rfl, by assumption⟩

theorem fold_top (l : List UInt8) (hl : l.length = 8) : (9223372036854775808 ≤ foldB l) ↔ 128 ≤ (l.getD 0 0).toNat := by
  cases l with
  | nil => simp at hl
  | cons x m =>
    have hm : m.length = 7 := by simpa using hl
    have h1 := foldB_lt m
    rw [hm] at h1
    have p7 : (256 : Nat) ^ 7 = 72057594037927936 := by decide
    rw [foldB_cons, hm, p7]
    rw [p7] at h1
    have h2 := x.toNat_lt
    simp only [List.getD_cons_zero]
    omega

set_option maxHeartbeats 400000 in
theorem refFrom_no {a : Option Addr} (n c : Nat) (hn : n ≠ 8) (w : World) :
    Calls Tryz.prog 15 #[.slice a n c] w fun e w' => e = .returned (.tuple #[.int .i64 0, .bool false]) ∧ w = w' := by
  have h8 : ((n : Int) == 8) = false := by simpa using fun h => hn (by omega)
  go_enter Tryz.func15, Tryz.ntmps15
  go_wp2
  go_ret2
  exact ⟨rfl, rfl⟩

theorem from_body (l : List UInt8) (hl : l.length = 8) (E : Ending) (hE : fromEnd (unrankI (foldB l)) = E) : ∀ r : Int, r = foldB l → ∃ n : Int, inI n ∧ E = fromEnd n ∧ 0 ≤ r ∧ r < 18446744073709551616 ∧ ((128 ≤ (l.getD 0 0).toNat ∧ r - 9223372036854775808 = n ∧ 9223372036854775808 ≤ r) ∨ ((l.getD 0 0).toNat < 128 ∧ wrap64 (bits .xor .u64 IntKind.u64.max r) = n ∧ r < 9223372036854775808)) := fun r hr => by
  have h1 := foldB_lt l
  rw [hl] at h1
  have p8 : (256 : Nat) ^ 8 = 18446744073709551616 := by decide
  have hb : r < 18446744073709551616 := by omega
  have h0 : 0 ≤ r := by omega
  have ft := fold_top l hl
  refine ⟨unrankI r, unrank_in h0 hb, by rw [← hE, hr], h0, hb, ?_⟩
  by_cases ht : 9223372036854775808 ≤ r
  · refine Or.inl ⟨ft.1 (by omega), ?_, ht⟩
    unfold unrankI
    rw [if_neg (by omega)]
  · refine Or.inr ⟨by have := mt ft.2; omega, ?_, by omega⟩
    rw [turnR h0 hb]
    unfold wrap64 unrankI
    rw [if_pos (by omega)]
    omega

set_option maxHeartbeats 1000000 in
set_option maxRecDepth 100000 in
theorem refFrom_yes (l : List UInt8) (hl : l.length = 8) (b c : Nat) (w : World) (hcells : ∀ i, i < 8 → w.cell? ⟨b, i, none⟩ = some (.int .u8 ((l.getD i 0).toNat : Int))) :
    Calls Tryz.prog 15 #[.slice (some ⟨b, 0, none⟩) 8 c] w fun e w' => e = fromEnd (unrankI (foldB l)) ∧ w = w' := by
  have HL := hid hl
  have HC := hid hcells
  clear hl hcells
  obtain ⟨E, hE⟩ : ∃ E, fromEnd (unrankI (foldB l)) = E := ⟨_, rfl⟩
  rw [hE]
  have hbody := from_body l HL.out E hE
  have HB := hid hbody
  clear hbody hE
  go_enter Tryz.func15, Tryz.ntmps15
  go_wp2
  go_loop [4, 5] (fun vr vi => ∃ (k : Nat) (r : Int), k ≤ 8 ∧ vr = .int .u64 r ∧ vi = .int .i64 k ∧ 0 ≤ r ∧ r = foldB (l.take k)) (fun _ vi => 8 - (intOf vi).toNat)
  case atStart => exact ⟨0, 0, by omega, rfl, rfl, by omega, rfl⟩
  case round =>
    obtain ⟨k, r, hk, rfl, rfl, hr0, hr⟩ := hrel
    by_cases hlt : k < 8
    · have hb : r < 72057594037927936 := by
        have h1 := foldB_lt (l.take k)
        have h2 : (l.take k).length ≤ 7 := by rw [List.length_take]; omega
        have h3 : 256 ^ (l.take k).length ≤ 256 ^ 7 := Nat.pow_le_pow_right (by omega) h2
        rw [hr]
        omega
      have hcell := HC.out k hlt
      have hx := (l.getD k 0).toNat_lt
      obtain ⟨x, hxe⟩ : ∃ x, (l.getD k 0).toNat = x := ⟨_, rfl⟩
      rw [hxe] at hcell hx
      have hx2 : x ≤ 255 := by omega
      have HN : Hid (r * 256 + x = ((foldB (l.take (k + 1)) : Nat) : Int)) := hid (by rw [foldB_take l k (by rw [HL.out]; exact hlt), hxe, hr]; omega)
      clear hr hxe hx HB
      go_wp2
      go_round
      case rel => exact ⟨k + 1, r * 256 + x, by omega, rfl, by go_num, by omega, HN.out⟩
      case measure => simp [intOf]; omega
    · obtain rfl : k = 8 := by omega
      have hr8 : r = foldB l := by rw [hr, List.take_of_length_le (by rw [HL.out]; omega)]
      obtain ⟨n, hin, hEn, h0, hb, hsel⟩ := HB.out r hr8
      have hcell := HC.out 0 (by omega)
      obtain ⟨x, hxe⟩ : ∃ x, (l.getD 0 0).toNat = x := ⟨_, rfl⟩
      rw [hxe] at hcell hsel
      clear hr hr8 HB hxe hr0 hk
      have HRt : Hid (∀ W, Calls Tryz.prog 37 #[.int .i64 n] W fun e w' => e = .returned (.bool (rightB n)) ∧ W = w') := fun W => refRight_any n W
      clear hin
      rcases hsel with ⟨hx, hw, hge⟩ | ⟨hx, hw, hge⟩ <;> cases hrt : rightB n
      all_goals (rw [hrt] at HRt)
      · have HFE : Hid (E = .returned (.tuple #[.int .i64 0, .bool false])) := hid (by rw [hEn]; unfold fromEnd; rw [if_neg (by rw [hrt]; decide)])
        clear hEn hrt
        go_wp2_with (go_at_call 37; ((with_reducible refine (HRt.out _).mono ?_); rintro e w' ⟨rfl, rfl⟩))
        go_ret2
        rw [HFE.out]
        exact ⟨rfl, rfl⟩
      · have HFE : Hid (E = .returned (.tuple #[.int .i64 n, .bool true])) := hid (by rw [hEn]; unfold fromEnd; rw [if_pos hrt])
        clear hEn hrt
        go_wp2_with (go_at_call 37; ((with_reducible refine (HRt.out _).mono ?_); rintro e w' ⟨rfl, rfl⟩))
        go_ret2
        rw [HFE.out]
        exact ⟨rfl, rfl⟩
      · have HFE : Hid (E = .returned (.tuple #[.int .i64 0, .bool false])) := hid (by rw [hEn]; unfold fromEnd; rw [if_neg (by rw [hrt]; decide)])
        clear hEn hrt
        go_wp2_with (go_at_call 37; ((with_reducible refine (HRt.out _).mono ?_); rintro e w' ⟨rfl, rfl⟩))
        go_ret2
        rw [HFE.out]
        exact ⟨rfl, rfl⟩
      · have HFE : Hid (E = .returned (.tuple #[.int .i64 n, .bool true])) := hid (by rw [hEn]; unfold fromEnd; rw [if_pos hrt])
        clear hEn hrt
        go_wp2_with (go_at_call 37; ((with_reducible refine (HRt.out _).mono ?_); rintro e w' ⟨rfl, rfl⟩))
        go_ret2
        rw [HFE.out]
        exact ⟨rfl, rfl⟩

end Go.Proofs.YtadehoibjpmhhaaGreatDoor

/- The document's Read (package joistref01) at every text. Conditions: none but the texts' lengths. -/
namespace Go.Proofs.YtadehoibjpmhhaaGreatDoor
open Go.RowKit

/-- A byte's digit; 16: none. -/
def dvN (c : Nat) : Nat := if 48 ≤ c ∧ c ≤ 57 then c - 48 else if 97 ≤ c ∧ c ≤ 102 then c - 87 else 16
theorem dv_dg : ∀ d : Nat, d < 16 → ∀ c : Nat, c < 256 → ((dg d).toNat = c ↔ dvN c = d) := by decide +kernel
def vd (c : Nat) : Nat := if dvN c < 16 then dvN c else 0
theorem vd_lt (c : Nat) : vd c < 16 := by unfold vd; split <;> omega
def valB (l : List UInt8) : Nat := l.foldl (fun r x => r * 16 + vd x.toNat) 0
theorem valB_snoc (l : List UInt8) (x : UInt8) : valB (l ++ [x]) = valB l * 16 + vd x.toNat := by unfold valB; rw [List.foldl_append]; rfl
theorem valB_take (l : List UInt8) (k : Nat) (h : k < l.length) : valB (l.take (k + 1)) = valB (l.take k) * 16 + vd (l.getD k 0).toNat := by
  rw [List.take_succ_eq_append_getElem h, valB_snoc, List.getD_eq_getElem?_getD, List.getElem?_eq_getElem h, Option.getD_some]
theorem valB_lt (l : List UInt8) : valB l < 16 ^ l.length := by
  induction h : l.length generalizing l with
  | zero => have : l = [] := List.length_eq_zero_iff.1 h
            subst this; decide
  | succ n ih =>
    obtain ⟨l', x, rfl⟩ : ∃ l' x, l = l' ++ [x] := ⟨l.dropLast, l.getLast (by intro e; rw [e] at h; simp at h), (List.dropLast_concat_getLast _).symm⟩
    have hl : l'.length = n := by simpa using h
    rw [valB_snoc, Nat.pow_succ]
    have := ih l' hl
    have hx := vd_lt x.toNat
    omega
theorem vd_dg (d : Nat) (h : d < 16) : vd (dg d).toNat = d := by
  have := (dv_dg d h (dg d).toNat (dg d).toNat_lt).1 rfl
  unfold vd; rw [this, if_pos h]
theorem valB_fix (k : Nat) : ∀ u, u < 16 ^ k → valB (fixW k u) = u := by
  induction k with
  | zero => intro u h; have : u = 0 := by simpa using h
            subst this; rfl
  | succ k ih =>
    intro u h
    have h2 : u / 16 < 16 ^ k := by rw [Nat.pow_succ] at h; omega
    rw [fixW, valB_snoc, ih _ h2, vd_dg _ (by omega)]
    omega

/-- The inner loop: d digits have been looked at. -/
def DInv (u0 c P : Nat) (W : World) (vu vd' : Value) (wr : World) : Prop :=
  ∃ d u m : Nat, d ≤ 16 ∧ vu = .int .u64 u ∧ vd' = .int .i64 d ∧ u = u0 + (if dvN c < d then dvN c * P else 0) ∧ wr = W.drewN m
/-- The outer loop: the bytes 1 to i - 1 have been taken. -/
def OFInv (l : List UInt8) (W : World) (vu vi : Value) (wr : World) : Prop :=
  ∃ k u m : Nat, k ≤ 16 ∧ vu = .int .u64 u ∧ vi = .int .i64 (k + 1 : Nat) ∧ u = valB (l.take k) * 16 ^ (16 - k) ∧ wr = W.drewN m

theorem lit_at (d : Nat) (h : d < 16) : ((⟨#[48, 49, 50, 51, 52, 53, 54, 55, 56, 57, 97, 98, 99, 100, 101, 102]⟩ : ByteArray)[d]'(show d < 16 from h)).toNat = (dg d).toNat := by
  have key : ∀ d : Nat, d < 16 → hexConst.data[d]? = some (dg d) := by decide +kernel
  have h1 := key d h
  have h2 : hexConst.data[d]? = some (hexConst.data[d]'(show d < 16 from h)) := Array.getElem?_eq_getElem _
  rw [h2] at h1
  exact congrArg UInt8.toNat (Option.some.inj h1)

theorem shl_in (t : List UInt8) (k d : Nat) (hk : k < 16) (ht : t.length ≤ k) (hd : d < 16) :
    Value.int .u64 (IntKind.u64.wrap (((valB t * 16 ^ (16 - k) : Nat) : Int) + IntKind.u64.wrap ((d : Int) * 2 ^ (64 - 4 * (k + 1))))) = Value.int .u64 ((valB t * 16 ^ (16 - k) + d * 16 ^ (15 - k) : Nat) : Int) := by
  have e2 : ((2 : Int) ^ (64 - 4 * (k + 1))) = ((16 ^ (15 - k) : Nat) : Int) := by
    have e : (2 : Nat) ^ (64 - 4 * (k + 1)) = 16 ^ (15 - k) := by rw [show 64 - 4 * (k + 1) = 4 * (15 - k) by omega, Nat.pow_mul]
    rw [← e, Int.natCast_pow]; rfl
  have hb : valB t * 16 ^ (16 - k) + d * 16 ^ (15 - k) < 18446744073709551616 := by
    have h1 := valB_lt t
    have h2 : 16 ^ t.length ≤ 16 ^ k := Nat.pow_le_pow_right (by omega) ht
    have h3 : valB t * 16 ^ (16 - k) + d * 16 ^ (15 - k) = (valB t * 16 + d) * 16 ^ (15 - k) := by
      rw [Nat.add_mul, Nat.mul_assoc, show 16 - k = (15 - k) + 1 by omega, Nat.pow_succ, Nat.mul_comm 16]
    have h4 : valB t * 16 + d < 16 ^ (k + 1) := by rw [Nat.pow_succ]; omega
    have h5 : 16 ^ (k + 1) * 16 ^ (15 - k) = 18446744073709551616 := by rw [← Nat.pow_add, show k + 1 + (15 - k) = 16 by omega]
    rw [h3, ← h5]
    exact Nat.mul_lt_mul_of_pos_right h4 (Nat.pow_pos (by omega))
  rw [e2, IntKind.wrap_u64, IntKind.wrap_u64, ← Int.natCast_mul]
  congr 1
  generalize valB t * 16 ^ (16 - k) = A at *
  generalize d * 16 ^ (15 - k) = B at *
  omega

/-- The numbers with names. -/
def nm (k : Nat) : Int := if k = 0 then 9221120237041090560 else if k = 1 then 9218868437227405312 else if k = 2 then -4503599627370496 else if k = 3 then 0 else -9223372036854775808

def NInv (vi : Value) : Prop := ∃ k : Nat, k ≤ 5 ∧ vi = .int .i64 k

set_option maxHeartbeats 2000000 in
theorem refRead_short (s : ByteArray) (hT : ∀ k, k < 5 → (showT (nm k) == s.toList) = false) (hl : s.size ≠ 17) (w : World) :
    Calls Tryz.prog 19 #[.string s] w fun e w' => e = .returned (.tuple #[.int .i64 0, .bool false]) ∧ Below w.heap.size w w' := by
  have T0 : (showT 9221120237041090560 == s.toList) = false := hT 0 (by omega)
  have T1 : (showT 9218868437227405312 == s.toList) = false := hT 1 (by omega)
  have T2 : (showT (-4503599627370496) == s.toList) = false := hT 2 (by omega)
  have T3 : (showT 0 == s.toList) = false := hT 3 (by omega)
  have T4 : (showT (-9223372036854775808) == s.toList) = false := hT 4 (by omega)
  have S0 : Hid (∀ W, Calls Tryz.prog 46 #[.int .i64 9221120237041090560] W fun e w' => e = .returned (.string ⟨(showT 9221120237041090560).toArray⟩) ∧ W = w') := fun W => refShow_any (by unfold inI; omega) W
  have S1 : Hid (∀ W, Calls Tryz.prog 46 #[.int .i64 9218868437227405312] W fun e w' => e = .returned (.string ⟨(showT 9218868437227405312).toArray⟩) ∧ W = w') := fun W => refShow_any (by unfold inI; omega) W
  have S2 : Hid (∀ W, Calls Tryz.prog 46 #[.int .i64 (-4503599627370496)] W fun e w' => e = .returned (.string ⟨(showT (-4503599627370496)).toArray⟩) ∧ W = w') := fun W => refShow_any (by unfold inI; omega) W
  have S3 : Hid (∀ W, Calls Tryz.prog 46 #[.int .i64 0] W fun e w' => e = .returned (.string ⟨(showT 0).toArray⟩) ∧ W = w') := fun W => refShow_any (by unfold inI; omega) W
  have S4 : Hid (∀ W, Calls Tryz.prog 46 #[.int .i64 (-9223372036854775808)] W fun e w' => e = .returned (.string ⟨(showT (-9223372036854775808)).toArray⟩) ∧ W = w') := fun W => refShow_any (by unfold inI; omega) W
  have h17 : ((s.size : Int) == 17) = false := by simpa using fun h => hl (by omega)
  clear hT hl
  go_enter Tryz.func19, Tryz.ntmps19
  go_wp2
  go_loop [5] (fun vi => NInv vi) (fun vi => 5 - (intOf vi).toNat)
  case atStart => exact ⟨0, by omega, rfl⟩
  case round =>
    obtain ⟨k, hk, rfl⟩ := hrel
    by_cases h5 : k = 5
    · subst h5
      go_wp2
      go_ret2
      exact ⟨rfl, (Below.refl _ _).alloc (Nat.le_refl _) _⟩
    · rcases (show k = 0 ∨ k = 1 ∨ k = 2 ∨ k = 3 ∨ k = 4 by omega) with rfl | rfl | rfl | rfl | rfl
      all_goals
        go_wp2_with (first | (go_at_call 46; ((with_reducible refine (S0.out _).mono ?_); rintro e w' ⟨rfl, rfl⟩)) | (go_at_call 46; ((with_reducible refine (S1.out _).mono ?_); rintro e w' ⟨rfl, rfl⟩)) | (go_at_call 46; ((with_reducible refine (S2.out _).mono ?_); rintro e w' ⟨rfl, rfl⟩)) | (go_at_call 46; ((with_reducible refine (S3.out _).mono ?_); rintro e w' ⟨rfl, rfl⟩)) | (go_at_call 46; ((with_reducible refine (S4.out _).mono ?_); rintro e w' ⟨rfl, rfl⟩)))
        go_round
        case rel => first | exact ⟨1, by omega, rfl⟩ | exact ⟨2, by omega, rfl⟩ | exact ⟨3, by omega, rfl⟩ | exact ⟨4, by omega, rfl⟩ | exact ⟨5, by omega, rfl⟩
        case measure => simp [intOf]

set_option maxHeartbeats 4000000 in
theorem refRead_17 (s : ByteArray) (hT : ∀ k, k < 5 → (showT (nm k) == s.toList) = false) (hl : s.size = 17) (E : Ending)
    (hE : E = if showT (wrap64 (valB (s.data.toList.drop 1))) = s.toList then .returned (.tuple #[.int .i64 (wrap64 (valB (s.data.toList.drop 1))), .bool true]) else .returned (.tuple #[.int .i64 0, .bool false])) (w : World) :
    Calls Tryz.prog 19 #[.string s] w fun e w' => e = E ∧ Below w.heap.size w w' := by
  have T0 : (showT 9221120237041090560 == s.toList) = false := hT 0 (by omega)
  have T1 : (showT 9218868437227405312 == s.toList) = false := hT 1 (by omega)
  have T2 : (showT (-4503599627370496) == s.toList) = false := hT 2 (by omega)
  have T3 : (showT 0 == s.toList) = false := hT 3 (by omega)
  have T4 : (showT (-9223372036854775808) == s.toList) = false := hT 4 (by omega)
  have S0 : Hid (∀ W, Calls Tryz.prog 46 #[.int .i64 9221120237041090560] W fun e w' => e = .returned (.string ⟨(showT 9221120237041090560).toArray⟩) ∧ W = w') := fun W => refShow_any (by unfold inI; omega) W
  have S1 : Hid (∀ W, Calls Tryz.prog 46 #[.int .i64 9218868437227405312] W fun e w' => e = .returned (.string ⟨(showT 9218868437227405312).toArray⟩) ∧ W = w') := fun W => refShow_any (by unfold inI; omega) W
  have S2 : Hid (∀ W, Calls Tryz.prog 46 #[.int .i64 (-4503599627370496)] W fun e w' => e = .returned (.string ⟨(showT (-4503599627370496)).toArray⟩) ∧ W = w') := fun W => refShow_any (by unfold inI; omega) W
  have S3 : Hid (∀ W, Calls Tryz.prog 46 #[.int .i64 0] W fun e w' => e = .returned (.string ⟨(showT 0).toArray⟩) ∧ W = w') := fun W => refShow_any (by unfold inI; omega) W
  have S4 : Hid (∀ W, Calls Tryz.prog 46 #[.int .i64 (-9223372036854775808)] W fun e w' => e = .returned (.string ⟨(showT (-9223372036854775808)).toArray⟩) ∧ W = w') := fun W => refShow_any (by unfold inI; omega) W
  have HE := hid hE
  obtain ⟨l, hll⟩ : ∃ l, s.data.toList.drop 1 = l := ⟨_, rfl⟩
  have hlen : l.length = 16 := by rw [← hll, List.length_drop]; have := Lib.size_eq s; omega
  rw [hll] at HE
  have HLEN := hid hlen
  have HLL := hid hll
  clear hT hE hlen hll
  go_enter Tryz.func19, Tryz.ntmps19
  go_wp2
  go_loop [5] (fun vi => NInv vi) (fun vi => 5 - (intOf vi).toNat)
  case atStart => exact ⟨0, by omega, rfl⟩
  case round =>
    obtain ⟨k, hk, rfl⟩ := hrel
    by_cases h5 : k = 5
    · subst h5
      clear T0 T1 T2 T3 T4 S0 S1 S2 S3 S4
      go_wp2
      go_loopw [6, 7] (fun vu vi wr => OFInv l (w.alloc (.cells #[.int .i64 9221120237041090560, .int .i64 9218868437227405312, .int .i64 (-4503599627370496), .int .i64 0, .int .i64 (-9223372036854775808)] 3)) vu vi wr) (fun _ vi _ => 17 - (intOf vi).toNat)
      case atStart => exact ⟨0, 0, 0, by omega, rfl, rfl, by simp [valB], rfl⟩
      case round =>
        obtain ⟨k, u0, m, hk, rfl, rfl, hu0, rfl⟩ := hrel
        by_cases hlt : k < 16
        · have HU0 := hid hu0
          clear hu0
          have hsc : (s[k + 1]'(by omega)).toNat = (l.getD k 0).toNat := by
            rw [← HLL.out, List.getD_eq_getElem?_getD, List.getElem?_drop, Nat.add_comm 1 k, List.getElem?_eq_getElem (by have := Lib.size_eq s; omega), Option.getD_some]
            rfl
          have hc256 := (l.getD k 0).toNat_lt
          obtain ⟨c, hc⟩ : ∃ c, (l.getD k 0).toNat = c := ⟨_, rfl⟩
          rw [hc] at hsc hc256
          have HC := hid hc
          clear hc
          go_wp2
          go_loopw [6, 8] (fun vu vd' wr => DInv u0 c (16 ^ (15 - k)) (w.alloc (.cells #[.int .i64 9221120237041090560, .int .i64 9218868437227405312, .int .i64 (-4503599627370496), .int .i64 0, .int .i64 (-9223372036854775808)] 3)) vu vd' wr) (fun _ vd' _ => 16 - (intOf vd').toNat)
          case atStart => exact ⟨0, u0, m, by omega, rfl, rfl, by simp, rfl⟩
          case round =>
            obtain ⟨d, u, m2, hd, rfl, rfl, hu, rfl⟩ := hrel
            have HU := hid hu
            clear hu
            by_cases hd16 : d < 16
            · have hdq : ((⟨#[48, 49, 50, 51, 52, 53, 54, 55, 56, 57, 97, 98, 99, 100, 101, 102]⟩ : ByteArray)[d]'(show d < 16 from hd16)).toNat = (dg d).toNat := lit_at d hd16
              obtain ⟨q, hq⟩ : ∃ q, (dg d).toNat = q := ⟨_, rfl⟩
              rw [hq] at hdq
              by_cases heq : dvN c = d
              · have hqc : ((q : Int) == (c : Int)) = true := by
                  have := (dv_dg d hd16 c hc256).2 heq
                  rw [hq] at this
                  simp [this]
                have HEQ := hid heq
                clear heq hq hc256
                go_wp2
                go_quiet (fail)
                go_wp2
                go_roundw
                case rel =>
                  have heq := HEQ.out
                  have hu := HU.out
                  rw [heq, if_neg (Nat.lt_irrefl d), Nat.add_zero] at hu
                  refine ⟨d + 1, u + d * 16 ^ (15 - k), _, by omega, ?_, by go_num, ?_, rfl⟩
                  · rw [hu, HU0.out, shl_in (l.take k) k d hlt (by rw [List.length_take]; omega) hd16]
                  · rw [heq, if_pos (Nat.lt_succ_self d), hu]
                case measure => simp [intOf]; omega
              · have hqc : ((q : Int) == (c : Int)) = false := by
                  have := mt (dv_dg d hd16 c hc256).1 heq
                  rw [hq] at this
                  simpa using fun h => this (by omega)
                have HEQ := hid heq
                clear heq hq hc256
                go_wp2
                go_quiet (fail)
                go_wp2
                go_roundw
                case rel =>
                  refine ⟨d + 1, u, _, by omega, rfl, by go_num, ?_, rfl⟩
                  rw [HU.out]
                  have := HEQ.out
                  by_cases h1 : dvN c < d
                  · rw [if_pos h1, if_pos (by omega)]
                  · rw [if_neg h1, if_neg (by omega)]
                case measure => simp [intOf]; omega
            · obtain rfl : d = 16 := by omega
              have HU2 : Hid (u = valB (l.take (k + 1)) * 16 ^ (16 - (k + 1))) := hid (by
                rw [HU.out, HU0.out, valB_take l k (by rw [HLEN.out]; exact hlt), HC.out, Nat.add_mul, Nat.mul_assoc, show 16 - k = 16 - (k + 1) + 1 by omega, Nat.pow_succ, Nat.mul_comm 16, show 15 - k = 16 - (k + 1) by omega]
                congr 1
                unfold vd
                split <;> simp)
              go_wp2
              go_roundw
              case rel => exact ⟨k + 1, u, _, by omega, rfl, by go_num, HU2.out, rfl⟩
              case measure => simp [intOf]; omega
        · obtain rfl : k = 16 := by omega
          have hu : u0 = valB l := by rw [hu0, List.take_of_length_le (by rw [HLEN.out]; omega)]; simp
          have HSh : Hid (∀ W, Calls Tryz.prog 46 #[.int .i64 (wrap64 u0)] W fun e w' => e = .returned (.string ⟨(showT (wrap64 u0)).toArray⟩) ∧ W = w') := fun W => refShow_any (wrap64_in u0) W
          have HE2 := HE.out
          rw [← hu] at HE2
          obtain ⟨n, hn⟩ : ∃ n, wrap64 (u0 : Int) = n := ⟨_, rfl⟩
          rw [hn] at HSh HE2
          obtain ⟨st, hst⟩ : ∃ st, showT n = st := ⟨_, rfl⟩
          rw [hst] at HSh HE2
          clear HE hu hu0 hst
          by_cases hsame : st = s.toList
          · have hb : (st == s.toList) = true := by simpa using hsame
            have HE3 : Hid (E = .returned (.tuple #[.int .i64 n, .bool true])) := hid (by rw [HE2, if_pos hsame])
            clear HE2 hsame
            go_wp2_with (go_at_call 46; ((with_reducible refine (HSh.out _).mono ?_); rintro e w' ⟨rfl, rfl⟩))
            go_ret2
            rw [HE3.out]
            exact ⟨rfl, below_drewN ((Below.refl _ _).alloc (Nat.le_refl _) _) _⟩
          · have hb : (st == s.toList) = false := by simpa using hsame
            have HE3 : Hid (E = .returned (.tuple #[.int .i64 0, .bool false])) := hid (by rw [HE2, if_neg hsame])
            clear HE2 hsame
            go_wp2_with (go_at_call 46; ((with_reducible refine (HSh.out _).mono ?_); rintro e w' ⟨rfl, rfl⟩))
            go_ret2
            rw [HE3.out]
            exact ⟨rfl, below_drewN ((Below.refl _ _).alloc (Nat.le_refl _) _) _⟩
    · rcases (show k = 0 ∨ k = 1 ∨ k = 2 ∨ k = 3 ∨ k = 4 by omega) with rfl | rfl | rfl | rfl | rfl
      all_goals
        go_wp2_with (first | (go_at_call 46; ((with_reducible refine (S0.out _).mono ?_); rintro e w' ⟨rfl, rfl⟩)) | (go_at_call 46; ((with_reducible refine (S1.out _).mono ?_); rintro e w' ⟨rfl, rfl⟩)) | (go_at_call 46; ((with_reducible refine (S2.out _).mono ?_); rintro e w' ⟨rfl, rfl⟩)) | (go_at_call 46; ((with_reducible refine (S3.out _).mono ?_); rintro e w' ⟨rfl, rfl⟩)) | (go_at_call 46; ((with_reducible refine (S4.out _).mono ?_); rintro e w' ⟨rfl, rfl⟩)))
        go_round
        case rel => first | exact ⟨1, by omega, rfl⟩ | exact ⟨2, by omega, rfl⟩ | exact ⟨3, by omega, rfl⟩ | exact ⟨4, by omega, rfl⟩ | exact ⟨5, by omega, rfl⟩
        case measure => simp [intOf]

end Go.Proofs.YtadehoibjpmhhaaGreatDoor

/- The document's Read at the texts with names. Conditions: the error variables hold errors; the table of math/bits reads as it is laid. -/
namespace Go.Proofs.YtadehoibjpmhhaaGreatDoor
open Go.RowKit

def NUpto (k0 : Nat) (vi : Value) : Prop := ∃ k : Nat, k ≤ k0 ∧ vi = .int .i64 k

set_option maxHeartbeats 2000000 in
theorem refRead_named0 (s : ByteArray) (hs : s.toList = showT 9221120237041090560) (w : World) :
    Calls Tryz.prog 19 #[.string s] w fun e w' => e = .returned (.tuple #[.int .i64 9221120237041090560, .bool true]) ∧ Below w.heap.size w w' := by
  have T0 : (showT 9221120237041090560 == s.toList) = true := by rw [hs]; decide +kernel
  have S0 : Hid (∀ W, Calls Tryz.prog 46 #[.int .i64 9221120237041090560] W fun e w' => e = .returned (.string ⟨(showT 9221120237041090560).toArray⟩) ∧ W = w') := fun W => refShow_any (by unfold inI; omega) W
  clear hs
  go_enter Tryz.func19, Tryz.ntmps19
  go_wp2
  go_loop [5] (fun vi => NUpto 0 vi) (fun vi => 5 - (intOf vi).toNat)
  case atStart => exact ⟨0, by omega, rfl⟩
  case round =>
    obtain ⟨k, hk, rfl⟩ := hrel
    obtain rfl : k = 0 := by omega
    go_wp2_with (first | (go_at_call 46; ((with_reducible refine (S0.out _).mono ?_); rintro e w' ⟨rfl, rfl⟩)))
    go_ret2
    exact ⟨rfl, (Below.refl _ _).alloc (Nat.le_refl _) _⟩

set_option maxHeartbeats 2000000 in
theorem refRead_named1 (s : ByteArray) (hs : s.toList = showT 9218868437227405312) (w : World) :
    Calls Tryz.prog 19 #[.string s] w fun e w' => e = .returned (.tuple #[.int .i64 9218868437227405312, .bool true]) ∧ Below w.heap.size w w' := by
  have T0 : (showT 9221120237041090560 == s.toList) = false := by rw [hs]; decide +kernel
  have T1 : (showT 9218868437227405312 == s.toList) = true := by rw [hs]; decide +kernel
  have S0 : Hid (∀ W, Calls Tryz.prog 46 #[.int .i64 9221120237041090560] W fun e w' => e = .returned (.string ⟨(showT 9221120237041090560).toArray⟩) ∧ W = w') := fun W => refShow_any (by unfold inI; omega) W
  have S1 : Hid (∀ W, Calls Tryz.prog 46 #[.int .i64 9218868437227405312] W fun e w' => e = .returned (.string ⟨(showT 9218868437227405312).toArray⟩) ∧ W = w') := fun W => refShow_any (by unfold inI; omega) W
  clear hs
  go_enter Tryz.func19, Tryz.ntmps19
  go_wp2
  go_loop [5] (fun vi => NUpto 1 vi) (fun vi => 5 - (intOf vi).toNat)
  case atStart => exact ⟨0, by omega, rfl⟩
  case round =>
    obtain ⟨k, hk, rfl⟩ := hrel
    rcases (show k = 0 ∨ k = 1 by omega) with rfl | rfl
    · go_wp2_with (first | (go_at_call 46; ((with_reducible refine (S0.out _).mono ?_); rintro e w' ⟨rfl, rfl⟩)) | (go_at_call 46; ((with_reducible refine (S1.out _).mono ?_); rintro e w' ⟨rfl, rfl⟩)))
      go_round
      case rel => exact ⟨1, by omega, rfl⟩
      case measure => simp [intOf]
    · go_wp2_with (first | (go_at_call 46; ((with_reducible refine (S0.out _).mono ?_); rintro e w' ⟨rfl, rfl⟩)) | (go_at_call 46; ((with_reducible refine (S1.out _).mono ?_); rintro e w' ⟨rfl, rfl⟩)))
      go_ret2
      exact ⟨rfl, (Below.refl _ _).alloc (Nat.le_refl _) _⟩

set_option maxHeartbeats 2000000 in
theorem refRead_named2 (s : ByteArray) (hs : s.toList = showT (-4503599627370496)) (w : World) :
    Calls Tryz.prog 19 #[.string s] w fun e w' => e = .returned (.tuple #[.int .i64 (-4503599627370496), .bool true]) ∧ Below w.heap.size w w' := by
  have T0 : (showT 9221120237041090560 == s.toList) = false := by rw [hs]; decide +kernel
  have T1 : (showT 9218868437227405312 == s.toList) = false := by rw [hs]; decide +kernel
  have T2 : (showT (-4503599627370496) == s.toList) = true := by rw [hs]; decide +kernel
  have S0 : Hid (∀ W, Calls Tryz.prog 46 #[.int .i64 9221120237041090560] W fun e w' => e = .returned (.string ⟨(showT 9221120237041090560).toArray⟩) ∧ W = w') := fun W => refShow_any (by unfold inI; omega) W
  have S1 : Hid (∀ W, Calls Tryz.prog 46 #[.int .i64 9218868437227405312] W fun e w' => e = .returned (.string ⟨(showT 9218868437227405312).toArray⟩) ∧ W = w') := fun W => refShow_any (by unfold inI; omega) W
  have S2 : Hid (∀ W, Calls Tryz.prog 46 #[.int .i64 (-4503599627370496)] W fun e w' => e = .returned (.string ⟨(showT (-4503599627370496)).toArray⟩) ∧ W = w') := fun W => refShow_any (by unfold inI; omega) W
  clear hs
  go_enter Tryz.func19, Tryz.ntmps19
  go_wp2
  go_loop [5] (fun vi => NUpto 2 vi) (fun vi => 5 - (intOf vi).toNat)
  case atStart => exact ⟨0, by omega, rfl⟩
  case round =>
    obtain ⟨k, hk, rfl⟩ := hrel
    rcases (show k = 0 ∨ k = 1 ∨ k = 2 by omega) with rfl | rfl | rfl
    · go_wp2_with (first | (go_at_call 46; ((with_reducible refine (S0.out _).mono ?_); rintro e w' ⟨rfl, rfl⟩)) | (go_at_call 46; ((with_reducible refine (S1.out _).mono ?_); rintro e w' ⟨rfl, rfl⟩)) | (go_at_call 46; ((with_reducible refine (S2.out _).mono ?_); rintro e w' ⟨rfl, rfl⟩)))
      go_round
      case rel => exact ⟨1, by omega, rfl⟩
      case measure => simp [intOf]
    · go_wp2_with (first | (go_at_call 46; ((with_reducible refine (S0.out _).mono ?_); rintro e w' ⟨rfl, rfl⟩)) | (go_at_call 46; ((with_reducible refine (S1.out _).mono ?_); rintro e w' ⟨rfl, rfl⟩)) | (go_at_call 46; ((with_reducible refine (S2.out _).mono ?_); rintro e w' ⟨rfl, rfl⟩)))
      go_round
      case rel => exact ⟨2, by omega, rfl⟩
      case measure => simp [intOf]
    · go_wp2_with (first | (go_at_call 46; ((with_reducible refine (S0.out _).mono ?_); rintro e w' ⟨rfl, rfl⟩)) | (go_at_call 46; ((with_reducible refine (S1.out _).mono ?_); rintro e w' ⟨rfl, rfl⟩)) | (go_at_call 46; ((with_reducible refine (S2.out _).mono ?_); rintro e w' ⟨rfl, rfl⟩)))
      go_ret2
      exact ⟨rfl, (Below.refl _ _).alloc (Nat.le_refl _) _⟩

set_option maxHeartbeats 2000000 in
theorem refRead_named3 (s : ByteArray) (hs : s.toList = showT 0) (w : World) :
    Calls Tryz.prog 19 #[.string s] w fun e w' => e = .returned (.tuple #[.int .i64 0, .bool true]) ∧ Below w.heap.size w w' := by
  have T0 : (showT 9221120237041090560 == s.toList) = false := by rw [hs]; decide +kernel
  have T1 : (showT 9218868437227405312 == s.toList) = false := by rw [hs]; decide +kernel
  have T2 : (showT (-4503599627370496) == s.toList) = false := by rw [hs]; decide +kernel
  have T3 : (showT 0 == s.toList) = true := by rw [hs]; decide +kernel
  have S0 : Hid (∀ W, Calls Tryz.prog 46 #[.int .i64 9221120237041090560] W fun e w' => e = .returned (.string ⟨(showT 9221120237041090560).toArray⟩) ∧ W = w') := fun W => refShow_any (by unfold inI; omega) W
  have S1 : Hid (∀ W, Calls Tryz.prog 46 #[.int .i64 9218868437227405312] W fun e w' => e = .returned (.string ⟨(showT 9218868437227405312).toArray⟩) ∧ W = w') := fun W => refShow_any (by unfold inI; omega) W
  have S2 : Hid (∀ W, Calls Tryz.prog 46 #[.int .i64 (-4503599627370496)] W fun e w' => e = .returned (.string ⟨(showT (-4503599627370496)).toArray⟩) ∧ W = w') := fun W => refShow_any (by unfold inI; omega) W
  have S3 : Hid (∀ W, Calls Tryz.prog 46 #[.int .i64 0] W fun e w' => e = .returned (.string ⟨(showT 0).toArray⟩) ∧ W = w') := fun W => refShow_any (by unfold inI; omega) W
  clear hs
  go_enter Tryz.func19, Tryz.ntmps19
  go_wp2
  go_loop [5] (fun vi => NUpto 3 vi) (fun vi => 5 - (intOf vi).toNat)
  case atStart => exact ⟨0, by omega, rfl⟩
  case round =>
    obtain ⟨k, hk, rfl⟩ := hrel
    rcases (show k = 0 ∨ k = 1 ∨ k = 2 ∨ k = 3 by omega) with rfl | rfl | rfl | rfl
    · go_wp2_with (first | (go_at_call 46; ((with_reducible refine (S0.out _).mono ?_); rintro e w' ⟨rfl, rfl⟩)) | (go_at_call 46; ((with_reducible refine (S1.out _).mono ?_); rintro e w' ⟨rfl, rfl⟩)) | (go_at_call 46; ((with_reducible refine (S2.out _).mono ?_); rintro e w' ⟨rfl, rfl⟩)) | (go_at_call 46; ((with_reducible refine (S3.out _).mono ?_); rintro e w' ⟨rfl, rfl⟩)))
      go_round
      case rel => exact ⟨1, by omega, rfl⟩
      case measure => simp [intOf]
    · go_wp2_with (first | (go_at_call 46; ((with_reducible refine (S0.out _).mono ?_); rintro e w' ⟨rfl, rfl⟩)) | (go_at_call 46; ((with_reducible refine (S1.out _).mono ?_); rintro e w' ⟨rfl, rfl⟩)) | (go_at_call 46; ((with_reducible refine (S2.out _).mono ?_); rintro e w' ⟨rfl, rfl⟩)) | (go_at_call 46; ((with_reducible refine (S3.out _).mono ?_); rintro e w' ⟨rfl, rfl⟩)))
      go_round
      case rel => exact ⟨2, by omega, rfl⟩
      case measure => simp [intOf]
    · go_wp2_with (first | (go_at_call 46; ((with_reducible refine (S0.out _).mono ?_); rintro e w' ⟨rfl, rfl⟩)) | (go_at_call 46; ((with_reducible refine (S1.out _).mono ?_); rintro e w' ⟨rfl, rfl⟩)) | (go_at_call 46; ((with_reducible refine (S2.out _).mono ?_); rintro e w' ⟨rfl, rfl⟩)) | (go_at_call 46; ((with_reducible refine (S3.out _).mono ?_); rintro e w' ⟨rfl, rfl⟩)))
      go_round
      case rel => exact ⟨3, by omega, rfl⟩
      case measure => simp [intOf]
    · go_wp2_with (first | (go_at_call 46; ((with_reducible refine (S0.out _).mono ?_); rintro e w' ⟨rfl, rfl⟩)) | (go_at_call 46; ((with_reducible refine (S1.out _).mono ?_); rintro e w' ⟨rfl, rfl⟩)) | (go_at_call 46; ((with_reducible refine (S2.out _).mono ?_); rintro e w' ⟨rfl, rfl⟩)) | (go_at_call 46; ((with_reducible refine (S3.out _).mono ?_); rintro e w' ⟨rfl, rfl⟩)))
      go_ret2
      exact ⟨rfl, (Below.refl _ _).alloc (Nat.le_refl _) _⟩

set_option maxHeartbeats 2000000 in
theorem refRead_named4 (s : ByteArray) (hs : s.toList = showT (-9223372036854775808)) (w : World) :
    Calls Tryz.prog 19 #[.string s] w fun e w' => e = .returned (.tuple #[.int .i64 (-9223372036854775808), .bool true]) ∧ Below w.heap.size w w' := by
  have T0 : (showT 9221120237041090560 == s.toList) = false := by rw [hs]; decide +kernel
  have T1 : (showT 9218868437227405312 == s.toList) = false := by rw [hs]; decide +kernel
  have T2 : (showT (-4503599627370496) == s.toList) = false := by rw [hs]; decide +kernel
  have T3 : (showT 0 == s.toList) = false := by rw [hs]; decide +kernel
  have T4 : (showT (-9223372036854775808) == s.toList) = true := by rw [hs]; decide +kernel
  have S0 : Hid (∀ W, Calls Tryz.prog 46 #[.int .i64 9221120237041090560] W fun e w' => e = .returned (.string ⟨(showT 9221120237041090560).toArray⟩) ∧ W = w') := fun W => refShow_any (by unfold inI; omega) W
  have S1 : Hid (∀ W, Calls Tryz.prog 46 #[.int .i64 9218868437227405312] W fun e w' => e = .returned (.string ⟨(showT 9218868437227405312).toArray⟩) ∧ W = w') := fun W => refShow_any (by unfold inI; omega) W
  have S2 : Hid (∀ W, Calls Tryz.prog 46 #[.int .i64 (-4503599627370496)] W fun e w' => e = .returned (.string ⟨(showT (-4503599627370496)).toArray⟩) ∧ W = w') := fun W => refShow_any (by unfold inI; omega) W
  have S3 : Hid (∀ W, Calls Tryz.prog 46 #[.int .i64 0] W fun e w' => e = .returned (.string ⟨(showT 0).toArray⟩) ∧ W = w') := fun W => refShow_any (by unfold inI; omega) W
  have S4 : Hid (∀ W, Calls Tryz.prog 46 #[.int .i64 (-9223372036854775808)] W fun e w' => e = .returned (.string ⟨(showT (-9223372036854775808)).toArray⟩) ∧ W = w') := fun W => refShow_any (by unfold inI; omega) W
  clear hs
  go_enter Tryz.func19, Tryz.ntmps19
  go_wp2
  go_loop [5] (fun vi => NUpto 4 vi) (fun vi => 5 - (intOf vi).toNat)
  case atStart => exact ⟨0, by omega, rfl⟩
  case round =>
    obtain ⟨k, hk, rfl⟩ := hrel
    rcases (show k = 0 ∨ k = 1 ∨ k = 2 ∨ k = 3 ∨ k = 4 by omega) with rfl | rfl | rfl | rfl | rfl
    · go_wp2_with (first | (go_at_call 46; ((with_reducible refine (S0.out _).mono ?_); rintro e w' ⟨rfl, rfl⟩)) | (go_at_call 46; ((with_reducible refine (S1.out _).mono ?_); rintro e w' ⟨rfl, rfl⟩)) | (go_at_call 46; ((with_reducible refine (S2.out _).mono ?_); rintro e w' ⟨rfl, rfl⟩)) | (go_at_call 46; ((with_reducible refine (S3.out _).mono ?_); rintro e w' ⟨rfl, rfl⟩)) | (go_at_call 46; ((with_reducible refine (S4.out _).mono ?_); rintro e w' ⟨rfl, rfl⟩)))
      go_round
      case rel => exact ⟨1, by omega, rfl⟩
      case measure => simp [intOf]
    · go_wp2_with (first | (go_at_call 46; ((with_reducible refine (S0.out _).mono ?_); rintro e w' ⟨rfl, rfl⟩)) | (go_at_call 46; ((with_reducible refine (S1.out _).mono ?_); rintro e w' ⟨rfl, rfl⟩)) | (go_at_call 46; ((with_reducible refine (S2.out _).mono ?_); rintro e w' ⟨rfl, rfl⟩)) | (go_at_call 46; ((with_reducible refine (S3.out _).mono ?_); rintro e w' ⟨rfl, rfl⟩)) | (go_at_call 46; ((with_reducible refine (S4.out _).mono ?_); rintro e w' ⟨rfl, rfl⟩)))
      go_round
      case rel => exact ⟨2, by omega, rfl⟩
      case measure => simp [intOf]
    · go_wp2_with (first | (go_at_call 46; ((with_reducible refine (S0.out _).mono ?_); rintro e w' ⟨rfl, rfl⟩)) | (go_at_call 46; ((with_reducible refine (S1.out _).mono ?_); rintro e w' ⟨rfl, rfl⟩)) | (go_at_call 46; ((with_reducible refine (S2.out _).mono ?_); rintro e w' ⟨rfl, rfl⟩)) | (go_at_call 46; ((with_reducible refine (S3.out _).mono ?_); rintro e w' ⟨rfl, rfl⟩)) | (go_at_call 46; ((with_reducible refine (S4.out _).mono ?_); rintro e w' ⟨rfl, rfl⟩)))
      go_round
      case rel => exact ⟨3, by omega, rfl⟩
      case measure => simp [intOf]
    · go_wp2_with (first | (go_at_call 46; ((with_reducible refine (S0.out _).mono ?_); rintro e w' ⟨rfl, rfl⟩)) | (go_at_call 46; ((with_reducible refine (S1.out _).mono ?_); rintro e w' ⟨rfl, rfl⟩)) | (go_at_call 46; ((with_reducible refine (S2.out _).mono ?_); rintro e w' ⟨rfl, rfl⟩)) | (go_at_call 46; ((with_reducible refine (S3.out _).mono ?_); rintro e w' ⟨rfl, rfl⟩)) | (go_at_call 46; ((with_reducible refine (S4.out _).mono ?_); rintro e w' ⟨rfl, rfl⟩)))
      go_round
      case rel => exact ⟨4, by omega, rfl⟩
      case measure => simp [intOf]
    · go_wp2_with (first | (go_at_call 46; ((with_reducible refine (S0.out _).mono ?_); rintro e w' ⟨rfl, rfl⟩)) | (go_at_call 46; ((with_reducible refine (S1.out _).mono ?_); rintro e w' ⟨rfl, rfl⟩)) | (go_at_call 46; ((with_reducible refine (S2.out _).mono ?_); rintro e w' ⟨rfl, rfl⟩)) | (go_at_call 46; ((with_reducible refine (S3.out _).mono ?_); rintro e w' ⟨rfl, rfl⟩)) | (go_at_call 46; ((with_reducible refine (S4.out _).mono ?_); rintro e w' ⟨rfl, rfl⟩)))
      go_ret2
      exact ⟨rfl, (Below.refl _ _).alloc (Nat.le_refl _) _⟩

/-- A right number shown, and read by the document. -/
theorem refRead_yes {n : Int} (h : inI n) (hr : rightB n = true) (w : World) :
    Calls Tryz.prog 19 #[.string ⟨(showT n).toArray⟩] w fun e w' => e = .returned (.tuple #[.int .i64 n, .bool true]) ∧ Below w.heap.size w w' := by
  by_cases e0 : n = 9221120237041090560
  · subst e0; exact refRead_named0 _ (mk_toList _) w
  by_cases e1 : n = 9218868437227405312
  · subst e1; exact refRead_named1 _ (mk_toList _) w
  by_cases e2 : n = -4503599627370496
  · subst e2; exact refRead_named2 _ (mk_toList _) w
  by_cases e3 : n = 0
  · subst e3; exact refRead_named3 _ (mk_toList _) w
  by_cases e4 : n = -9223372036854775808
  · subst e4; exact refRead_named4 _ (mk_toList _) w
  have hsh : showT n = 120 :: fixW 16 (wd n) := by
    unfold showT textW
    unfold inI at h
    rw [if_pos hr]
    rw [if_neg (by unfold wd; omega), if_neg (by unfold wd; omega), if_neg (by unfold wd; omega), if_neg (by unfold wd; omega), if_neg (by unfold wd; omega)]
  have hv : valB (fixW 16 (wd n)) = wd n := valB_fix 16 _ (wd_lt n)
  have hd : (⟨(showT n).toArray⟩ : ByteArray).data.toList.drop 1 = fixW 16 (wd n) := by rw [hsh]; rfl
  refine refRead_17 ⟨(showT n).toArray⟩ ?_ ?_ _ ?_ w
  · intro k hk
    rw [mk_toList, hsh]
    rcases (show k = 0 ∨ k = 1 ∨ k = 2 ∨ k = 3 ∨ k = 4 by omega) with rfl | rfl | rfl | rfl | rfl
    · rw [show showT (nm 0) = nanT by decide +kernel]; rfl
    · rw [show showT (nm 1) = infT by decide +kernel]; rfl
    · rw [show showT (nm 2) = minfT by decide +kernel]; rfl
    · rw [show showT (nm 3) = zeroT by decide +kernel]; rfl
    · rw [show showT (nm 4) = mzeroT by decide +kernel]; rfl
  · rw [hsh]
    show (120 :: fixW 16 (wd n)).toArray.size = 17
    rw [List.size_toArray, List.length_cons, fixW_len]
  · rw [hd, hv, wrap64_wd h, mk_toList, if_pos rfl]

theorem refRead_no (l : List UInt8) (hno : NoneShows l) (w : World) :
    Calls Tryz.prog 19 #[.string ⟨l.toArray⟩] w fun e w' => e = .returned (.tuple #[.int .i64 0, .bool false]) ∧ Below w.heap.size w w' := by
  have hT : ∀ k, k < 5 → (showT (nm k) == (⟨l.toArray⟩ : ByteArray).toList) = false := fun k hk => by
    rw [mk_toList]
    refine beq_eq_false_iff_ne.2 ?_
    rcases (show k = 0 ∨ k = 1 ∨ k = 2 ∨ k = 3 ∨ k = 4 by omega) with rfl | rfl | rfl | rfl | rfl
    · exact hno _ (by unfold inI nm; simp) (by decide)
    · exact hno _ (by unfold inI nm; simp) (by decide)
    · exact hno _ (by unfold inI nm; simp) (by decide)
    · exact hno _ (by unfold inI nm; simp) (by decide)
    · exact hno _ (by unfold inI nm; simp) (by decide)
  by_cases h17 : (⟨l.toArray⟩ : ByteArray).size = 17
  · refine refRead_17 ⟨l.toArray⟩ hT h17 _ ?_ w
    rw [mk_toList, if_neg]
    intro h
    cases hr : rightB (wrap64 (valB ((⟨l.toArray⟩ : ByteArray).data.toList.drop 1) : Int))
    · unfold showT at h
      rw [hr, if_neg (by decide)] at h
      have hl : l.length = 17 := by rw [Lib.size_eq] at h17; simpa using h17
      rw [← h] at hl
      exact absurd hl (by decide)
    · exact hno _ (wrap64_in _) hr h
  · exact refRead_short ⟨l.toArray⟩ hT h17 w

end Go.Proofs.YtadehoibjpmhhaaGreatDoor

/- float.From and the document's From at a slice anywhere in memory. Conditions: the slice holds those bytes. -/
namespace Go.Proofs.YtadehoibjpmhhaaGreatDoor
open Go.RowKit

set_option maxHeartbeats 1000000 in
set_option maxRecDepth 100000 in
theorem refFrom_off (l : List UInt8) (hl : l.length = 8) (b off c : Nat) (w : World) (hcells : ∀ i, i < 8 → w.cell? ⟨b, off + i, none⟩ = some (.int .u8 ((l.getD i 0).toNat : Int))) :
    Calls Tryz.prog 15 #[.slice (some ⟨b, off, none⟩) 8 c] w fun e w' => e = fromEnd (unrankI (foldB l)) ∧ w = w' := by
  have HL := hid hl
  have HC := hid hcells
  clear hl hcells
  obtain ⟨E, hE⟩ : ∃ E, fromEnd (unrankI (foldB l)) = E := ⟨_, rfl⟩
  rw [hE]
  have hbody := from_body l HL.out E hE
  have HB := hid hbody
  clear hbody hE
  go_enter Tryz.func15, Tryz.ntmps15
  go_wp2
  go_loop [4, 5] (fun vr vi => ∃ (k : Nat) (r : Int), k ≤ 8 ∧ vr = .int .u64 r ∧ vi = .int .i64 k ∧ 0 ≤ r ∧ r = foldB (l.take k)) (fun _ vi => 8 - (intOf vi).toNat)
  case atStart => exact ⟨0, 0, by omega, rfl, rfl, by omega, rfl⟩
  case round =>
    obtain ⟨k, r, hk, rfl, rfl, hr0, hr⟩ := hrel
    by_cases hlt : k < 8
    · have hb : r < 72057594037927936 := by
        have h1 := foldB_lt (l.take k)
        have h2 : (l.take k).length ≤ 7 := by rw [List.length_take]; omega
        have h3 : 256 ^ (l.take k).length ≤ 256 ^ 7 := Nat.pow_le_pow_right (by omega) h2
        rw [hr]
        omega
      have hcell := HC.out k hlt
      have hx := (l.getD k 0).toNat_lt
      obtain ⟨x, hxe⟩ : ∃ x, (l.getD k 0).toNat = x := ⟨_, rfl⟩
      rw [hxe] at hcell hx
      have hx2 : x ≤ 255 := by omega
      have HN : Hid (r * 256 + x = ((foldB (l.take (k + 1)) : Nat) : Int)) := hid (by rw [foldB_take l k (by rw [HL.out]; exact hlt), hxe, hr]; omega)
      clear hr hxe hx HB
      go_wp2
      go_round
      case rel => exact ⟨k + 1, r * 256 + x, by omega, rfl, by go_num, by omega, HN.out⟩
      case measure => simp [intOf]; omega
    · obtain rfl : k = 8 := by omega
      have hr8 : r = foldB l := by rw [hr, List.take_of_length_le (by rw [HL.out]; omega)]
      obtain ⟨n, hin, hEn, h0, hb, hsel⟩ := HB.out r hr8
      have hcell := HC.out 0 (by omega)
      rw [Nat.add_zero] at hcell
      obtain ⟨x, hxe⟩ : ∃ x, (l.getD 0 0).toNat = x := ⟨_, rfl⟩
      rw [hxe] at hcell hsel
      clear hr hr8 HB hxe hr0 hk
      have HRt : Hid (∀ W, Calls Tryz.prog 37 #[.int .i64 n] W fun e w' => e = .returned (.bool (rightB n)) ∧ W = w') := fun W => refRight_any n W
      clear hin
      rcases hsel with ⟨hx, hw, hge⟩ | ⟨hx, hw, hge⟩ <;> cases hrt : rightB n
      all_goals (rw [hrt] at HRt)
      · have HFE : Hid (E = .returned (.tuple #[.int .i64 0, .bool false])) := hid (by rw [hEn]; unfold fromEnd; rw [if_neg (by rw [hrt]; decide)])
        clear hEn hrt
        go_wp2_with (go_at_call 37; ((with_reducible refine (HRt.out _).mono ?_); rintro e w' ⟨rfl, rfl⟩))
        go_ret2
        rw [HFE.out]
        exact ⟨rfl, rfl⟩
      · have HFE : Hid (E = .returned (.tuple #[.int .i64 n, .bool true])) := hid (by rw [hEn]; unfold fromEnd; rw [if_pos hrt])
        clear hEn hrt
        go_wp2_with (go_at_call 37; ((with_reducible refine (HRt.out _).mono ?_); rintro e w' ⟨rfl, rfl⟩))
        go_ret2
        rw [HFE.out]
        exact ⟨rfl, rfl⟩
      · have HFE : Hid (E = .returned (.tuple #[.int .i64 0, .bool false])) := hid (by rw [hEn]; unfold fromEnd; rw [if_neg (by rw [hrt]; decide)])
        clear hEn hrt
        go_wp2_with (go_at_call 37; ((with_reducible refine (HRt.out _).mono ?_); rintro e w' ⟨rfl, rfl⟩))
        go_ret2
        rw [HFE.out]
        exact ⟨rfl, rfl⟩
      · have HFE : Hid (E = .returned (.tuple #[.int .i64 n, .bool true])) := hid (by rw [hEn]; unfold fromEnd; rw [if_pos hrt])
        clear hEn hrt
        go_wp2_with (go_at_call 37; ((with_reducible refine (HRt.out _).mono ?_); rintro e w' ⟨rfl, rfl⟩))
        go_ret2
        rw [HFE.out]
        exact ⟨rfl, rfl⟩

end Go.Proofs.YtadehoibjpmhhaaGreatDoor
