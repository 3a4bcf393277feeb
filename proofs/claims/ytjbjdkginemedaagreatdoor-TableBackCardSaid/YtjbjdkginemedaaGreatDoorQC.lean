/- Several texts in one: NG NH NI ND NJ. Conditions: as each theorem names them. -/
import Derived.Test.YtjbjdkginemedaaGreatDoorQ9
import Derived.Test.YtjbjdkginemedaaGreatDoorQ4
import Derived.Deep.QuietTactic
import Derived.BigQuiet
import Derived.Deep.Upon
import Derived.Deep.AppendSrc
import Derived.Lib.Bytealg
/- The block's reader: some bytes, a number, a number and so many bytes. Conditions: the reader holds its bytes, a million at most. -/
namespace Go.Proofs.YtjbjdkginemedaaGreatDoor
open Go.RowKit

/-- A slice of bytes that doesn't lie where the reader lies. -/
def Sx (w : World) (rb : Nat) (v : Value) (l : List UInt8) : Prop := ∃ A c, v = .slice A l.length c ∧ l.length ≤ c ∧ c ≤ 9223372036854775807 ∧ (A = none → c = 0) ∧ (A ≠ none → ∃ b off, A = some ⟨b, off, none⟩ ∧ b ≠ rb ∧ b < w.heap.size ∧ Holds w b off l)
/-- A slice of bytes that lies below the reader. -/
def Sb (w : World) (rb : Nat) (v : Value) (l : List UInt8) : Prop := ∃ A c, v = .slice A l.length c ∧ l.length ≤ c ∧ c ≤ 9223372036854775807 ∧ (A = none → c = 0) ∧ (A ≠ none → ∃ b off, A = some ⟨b, off, none⟩ ∧ b < rb ∧ b < w.heap.size ∧ Holds w b off l)
/-- The reader stands in block rb: the bytes l are left. -/
def Rs (w : World) (rb : Nat) (l : List UInt8) (bad : Bool) : Prop := ∃ v, Blk w rb 70 #[v, .bool bad] ∧ Sb w rb v l
section
variable {w w' : World} {rb : Nat} {v : Value} {l : List UInt8} {bad : Bool}
theorem sx_nil (w : World) (rb : Nat) : Sx w rb (.slice none 0 0) [] := ⟨none, 0, rfl, by simp, by omega, fun _ => rfl, fun h => absurd rfl h⟩
theorem Sx.but (h : Sx w rb v l) (hb : But w.heap.size rb w w') : Sx w' rb v l := by
  obtain ⟨A, c, h1, h2, h3, h4, h5⟩ := h
  refine ⟨A, c, h1, h2, h3, h4, fun h0 => ?_⟩
  obtain ⟨b, off, e, hne, hlt, hh⟩ := h5 h0
  exact ⟨b, off, e, hne, Nat.lt_of_lt_of_le hlt hb.size, fun i hi => by rw [hb.cell hlt hne]; exact hh i hi⟩
theorem Sx.below (h : Sx w rb v l) (hb : Below w.heap.size w w') : Sx w' rb v l := h.but (But.of_below hb rb)
theorem Sx.holds {A : Option Addr} {n c : Nat} (h : Sx w rb (.slice A n c) l) : n = l.length ∧ l.length ≤ c ∧ c ≤ 9223372036854775807 ∧ (A = none → c = 0) ∧ HoldsA w A l := by
  obtain ⟨A', c', e, h2, h3, h4, h5⟩ := h
  injection e with e1 e2 e3
  subst e1 e3
  refine ⟨e2, h2, h3, h4, fun h0 => ?_⟩
  cases A with
  | none => have := h4 rfl; omega
  | some a =>
    obtain ⟨b, off, e, _, _, hh⟩ := h5 (fun e => by cases e)
    exact ⟨b, off, e, hh⟩
theorem Sx.form (h : Sx w rb v l) : ∃ A c, v = .slice A l.length c ∧ l.length ≤ c ∧ c ≤ 9223372036854775807 ∧ (A = none → c = 0) ∧ HoldsA w A l := by
  have h' := h
  obtain ⟨A, c, rfl, _⟩ := h
  exact ⟨A, c, rfl, h'.holds.2⟩
theorem Sb.sx (h : Sb w rb v l) : Sx w rb v l := by
  obtain ⟨A, c, h1, h2, h3, h4, h5⟩ := h
  refine ⟨A, c, h1, h2, h3, h4, fun h0 => ?_⟩
  obtain ⟨b, off, e, hlt, h6, hh⟩ := h5 h0
  exact ⟨b, off, e, by omega, h6, hh⟩
theorem Sb.form (h : Sb w rb v l) : ∃ A c, v = .slice A l.length c ∧ l.length ≤ c ∧ c ≤ 9223372036854775807 ∧ (A = none → c = 0) ∧ HoldsA w A l := h.sx.form
theorem Sb.but (h : Sb w rb v l) (hb : But w.heap.size rb w w') : Sb w' rb v l := by
  obtain ⟨A, c, h1, h2, h3, h4, h5⟩ := h
  refine ⟨A, c, h1, h2, h3, h4, fun h0 => ?_⟩
  obtain ⟨b, off, e, hr, hlt, hh⟩ := h5 h0
  exact ⟨b, off, e, hr, Nat.lt_of_lt_of_le hlt hb.size, fun i hi => by rw [hb.cell hlt (by omega)]; exact hh i hi⟩
theorem Sb.below (h : Sb w rb v l) (hb : Below w.heap.size w w') : Sb w' rb v l := h.but (But.of_below hb rb)
theorem Sb.low (h : Sb w rb v l) (hb : Below rb w w') : Sb w' rb v l := by
  obtain ⟨A, c, h1, h2, h3, h4, h5⟩ := h
  refine ⟨A, c, h1, h2, h3, h4, fun h0 => ?_⟩
  obtain ⟨b, off, e, hr, hlt, hh⟩ := h5 h0
  exact ⟨b, off, e, hr, Nat.lt_of_lt_of_le hlt hb.size, hh.below hb hr⟩
theorem sb_nil (w : World) (rb : Nat) : Sb w rb (.slice none 0 0) [] := ⟨none, 0, rfl, by simp, by omega, fun _ => rfl, fun h => absurd rfl h⟩
theorem Rs.keep (h : Rs w rb l bad) (hb : Below (rb + 1) w w') : Rs w' rb l bad := by
  obtain ⟨v, h1, h2⟩ := h
  exact ⟨v, h1.keep hb (by omega), h2.low (hb.mono (by omega))⟩
theorem Rs.lt (h : Rs w rb l bad) : rb < w.heap.size := by
  obtain ⟨v, h, _⟩ := h
  exact h.lt
theorem Rs.below (h : Rs w rb l bad) (hb : Below w.heap.size w w') : Rs w' rb l bad := by
  obtain ⟨v, h1, h2⟩ := h
  exact ⟨v, h1.keep hb h1.lt, h2.below hb⟩
theorem Row.sx {B : Nat} (h : Row w B v l) (hB : rb < B) : Sx w rb v l := by
  rcases h.2 with ⟨e, h0⟩ | ⟨g, cap, cur, e, hg, hh, h1, h2, _⟩
  · have : l = [] := List.eq_nil_of_length_eq_zero h0
    subst this e
    exact sx_nil w rb
  · have hlt : g < w.heap.size := World.ownsRow.lt h g (by rw [e]; rfl) |>.2
    refine ⟨_, cap, e, h1, by unfold maxLen at h2; omega, fun e => (by cases e), fun _ => ⟨g, 0, rfl, by omega, hlt, fun i hi => ?_⟩⟩
    obtain ⟨g', cap', e', _, _, _, hc⟩ := h.form (by omega)
    rw [e] at e'
    injection e' with e1
    injection e1 with e1
    injection e1 with e1
    rw [Nat.zero_add, e1]
    exact hc i hi
end

set_option maxHeartbeats 1000000 in
theorem bsome_in (rb b off m c k : Nat) (hk : k < c) (hm : k ≤ m) (_hmc : m ≤ c) (hc : c ≤ 9223372036854775807) (w : World) (h0 : w.cell? ⟨rb, 0, none⟩ = some (.slice (some ⟨b, off, none⟩) m c)) (hf : w.frozen? ⟨rb, 0, none⟩ = false) :
    Calls Tryz.prog 114 #[.pointer (some ⟨rb, 0, none⟩), .int .i64 k] w fun e w' => e = .returned (.slice (some ⟨b, off, none⟩) k k) ∧ w' = w.setCell ⟨rb, 0, none⟩ (.slice (some ⟨b, off + k, none⟩) (m - k) (c - k)) := by
  have hkm : ¬ (m : Int) < (k : Int) := by omega
  go_enter Tryz.func114, Tryz.ntmps114
  go_wp2
  go_ret
  exact ⟨rfl, rfl⟩

set_option maxHeartbeats 1000000 in
theorem bsome_all (rb b off k : Nat) (_hc : k ≤ 9223372036854775807) (w : World) (h0 : w.cell? ⟨rb, 0, none⟩ = some (.slice (some ⟨b, off, none⟩) k k)) (hf : w.frozen? ⟨rb, 0, none⟩ = false) :
    Calls Tryz.prog 114 #[.pointer (some ⟨rb, 0, none⟩), .int .i64 k] w fun e w' => e = .returned (.slice (some ⟨b, off, none⟩) k k) ∧ w' = w.setCell ⟨rb, 0, none⟩ (.slice (some ⟨b, off, none⟩) 0 0) := by
  go_enter Tryz.func114, Tryz.ntmps114
  go_wp2
  go_ret
  exact ⟨rfl, rfl⟩

set_option maxHeartbeats 1000000 in
theorem bsome_nil (rb : Nat) (w : World) (h0 : w.cell? ⟨rb, 0, none⟩ = some (.slice none 0 0)) (hf : w.frozen? ⟨rb, 0, none⟩ = false) :
    Calls Tryz.prog 114 #[.pointer (some ⟨rb, 0, none⟩), .int .i64 0] w fun e w' => e = .returned (.slice none 0 0) ∧ w' = w.setCell ⟨rb, 0, none⟩ (.slice none 0 0) := by
  go_enter Tryz.func114, Tryz.ntmps114
  go_wp2
  go_ret
  exact ⟨rfl, rfl⟩

set_option maxHeartbeats 1000000 in
theorem bsome_no (rb m c k : Nat) (A : Option Addr) (bad : Bool) (hk : m < k) (_hk2 : k ≤ 9223372036854775807) (w : World) (h0 : w.cell? ⟨rb, 0, none⟩ = some (.slice A m c)) (h1 : w.cell? ⟨rb, 1, none⟩ = some (.bool bad)) (hf : w.frozen? ⟨rb, 1, none⟩ = false) :
    Calls Tryz.prog 114 #[.pointer (some ⟨rb, 0, none⟩), .int .i64 k] w fun e w' => e = .returned (.slice none 0 0) ∧ w' = w.setCell ⟨rb, 1, none⟩ (.bool true) := by
  have hkm : (m : Int) < (k : Int) := by omega
  go_enter Tryz.func114, Tryz.ntmps114
  go_wp2
  go_ret
  exact ⟨rfl, rfl⟩

/-- What some leaves. -/
def SoEnd (rb : Nat) (l : List UInt8) (bad : Bool) (k : Nat) (w : World) (e : Ending) (w' : World) : Prop :=
  But w.heap.size rb w w' ∧ if k ≤ l.length then ∃ v, e = .returned v ∧ Sx w' rb v (l.take k) ∧ Rs w' rb (l.drop k) bad else e = .returned (.slice none 0 0) ∧ Rs w' rb l true
theorem bsome_any (rb : Nat) (l : List UInt8) (bad : Bool) (k : Nat) (hk : k ≤ 9223372036854775807) (w : World) (h : Rs w rb l bad) :
    Calls Tryz.prog 114 #[.pointer (some ⟨rb, 0, none⟩), .int .i64 k] w (SoEnd rb l bad k w) := by
  obtain ⟨v, hB, hS⟩ := h
  have hS' := hS
  obtain ⟨A, c, rfl, h2, h3, h4, h5⟩ := hS
  have c0 : w.cell? ⟨rb, 0, none⟩ = some (.slice A l.length c) := hB.cell 0
  have f0 := hB.free 0
  have f1 := hB.free 1
  unfold SoEnd
  by_cases hkl : k ≤ l.length
  · simp only [if_pos hkl]
    match A, c0, h4, h5, hB, hS' with
    | none, c0, h4, h5, hB, hS' =>
      have ec := h4 rfl
      subst ec
      have el : l = [] := List.eq_nil_of_length_eq_zero (by omega)
      subst el
      obtain rfl : k = 0 := by simpa using hkl
      refine (bsome_nil rb w c0 f0).mono fun e w' ⟨he, hw⟩ => ?_
      subst hw
      exact ⟨(But.refl _ _ _).setCell 0 _, _, he, (sx_nil _ _), _, hB.set 0 _, sb_nil _ _⟩
    | some a, c0, h4, h5, hB, hS' =>
      obtain ⟨b, off, e, hrb, hlt, hh⟩ := h5 (fun e => by cases e)
      cases e
      have hne : b ≠ rb := by omega
      have hbut : ∀ u, But w.heap.size rb w (w.setCell ⟨rb, 0, none⟩ u) := fun u => (But.refl _ _ _).setCell 0 u
      have htk : ∀ u, Sx (w.setCell ⟨rb, 0, none⟩ u) rb (.slice (some ⟨b, off, none⟩) k k) (l.take k) := fun u => by
        refine ⟨_, k, by rw [List.length_take, Nat.min_eq_left hkl], by rw [List.length_take]; omega, by omega, fun e => (by cases e), fun _ => ⟨b, off, rfl, hne, by simpa using hlt, fun i hi => ?_⟩⟩
        rw [List.length_take] at hi
        rw [(hbut u).cell hlt hne, hh i (by omega)]
        simp only [List.getD_eq_getElem?_getD, List.getElem?_take_of_lt (show i < k by omega)]
      by_cases hkc : k < c
      · refine (bsome_in rb b off l.length c k hkc hkl h2 h3 w c0 f0).mono fun e w' ⟨he, hw⟩ => ?_
        subst hw
        refine ⟨hbut _, _, he, htk _, _, hB.set 0 _, _, c - k, by rw [List.length_drop], by rw [List.length_drop]; omega, by omega, fun e => (by cases e), fun _ => ⟨b, off + k, rfl, hrb, by simpa using hlt, fun i hi => ?_⟩⟩
        rw [(hbut _).cell hlt hne]
        exact hh.drop k i hi
      · have ec : c = l.length := by omega
        have ek : k = l.length := by omega
        subst ec
        rw [← ek] at c0
        refine (bsome_all rb b off k (by omega) w c0 f0).mono fun e w' ⟨he, hw⟩ => ?_
        subst hw
        have ed : l.drop k = [] := List.drop_eq_nil_of_le (by omega)
        rw [ed]
        exact ⟨hbut _, _, he, htk _, _, hB.set 0 _, _, 0, rfl, by simp, by omega, fun e => (by cases e), fun _ => ⟨b, off, rfl, hrb, by simpa using hlt, fun i hi => absurd hi (by simp)⟩⟩
  · simp only [if_neg hkl]
    refine (bsome_no rb l.length c k A bad (by omega) hk w c0 (hB.cell 1) f1).mono fun e w' ⟨he, hw⟩ => ?_
    subst hw
    have hbut : But w.heap.size rb w (w.setCell ⟨rb, 1, none⟩ (.bool true)) := (But.refl _ _ _).setCell 1 _
    exact ⟨hbut, he, _, hB.set 1 _, hS'.but hbut⟩
end Go.Proofs.YtjbjdkginemedaaGreatDoor

/- The block's reader: a number; a number and so many bytes. Conditions: the reader holds its bytes, a million at most. -/
namespace Go.Proofs.YtjbjdkginemedaaGreatDoor
open Go.RowKit

/-- What number leaves. -/
def NuEnd (rb : Nat) (l : List UInt8) (bad : Bool) (w : World) (e : Ending) (w' : World) : Prop :=
  But w.heap.size rb w w' ∧ match tk l with
    | some (n, r) => e = .returned (.int .i64 (n : Int)) ∧ Rs w' rb r bad
    | none => e = .returned (.int .i64 0) ∧ Rs w' rb l true
set_option maxRecDepth 100000 in
set_option maxHeartbeats 2000000 in
theorem bnumber_no (rb m h c : Nat) (A : Option Addr) (hh : h = min m 9) (hmc : m ≤ c) (hc : c ≤ 9223372036854775807) (hA : A = none → c = 0) (bad : Bool) (w : World) (h0 : w.cell? ⟨rb, 0, none⟩ = some (.slice A m c)) (h1 : w.cell? ⟨rb, 1, none⟩ = some (.bool bad)) (hf : w.frozen? ⟨rb, 1, none⟩ = false) (hlt : rb < w.heap.size)
    (HT : ∀ W, Below w.heap.size w W → Calls Tryz.prog 113 #[.slice A h c] W fun e w' => e = .returned (.tuple #[.int .i64 0, .slice none 0 0, .bool false]) ∧ Below w.heap.size w w') :
    Calls Tryz.prog 54 #[.pointer (some ⟨rb, 0, none⟩)] w fun e w' => e = .returned (.int .i64 0) ∧ ∃ w1, Below w.heap.size w w1 ∧ w' = w1.setCell ⟨rb, 1, none⟩ (.bool true) := by
  have mixed : Tryz.prog.follows .mixedOrders = true := by kernel_rfl
  have hmin : min 9 (m : Int) = (h : Int) := by omega
  have hhc : h ≤ c := by omega
  have hhz : (h : Int) ≤ (c : Int) := by omega
  have hh0 : (0 : Int) ≤ (h : Int) := by omega
  have HT := hid HT
  have HL := hid (And.intro hlt (And.intro hf h1))
  have hHH := hid hh
  clear hh hlt hf h1
  cases A with
  | none =>
    obtain rfl := hA rfl
    obtain rfl : m = 0 := by omega
    obtain rfl : h = 0 := by omega
    clear hmin hA
    go_enter Tryz.func54, Tryz.ntmps54
    go_wp2
    go_region
    all_goals
      go_wp2_with (go_at_call 113; refine (HT.out _ (by repeat' (first | exact Below.refl _ _ | apply Below.drew | apply Go.below_drewN))).mono ?_; rintro e w1 ⟨rfl, hb1⟩; have f1 : w1.frozen? ⟨rb, 1, none⟩ = false := (hb1.frozen (p := ⟨rb, 1, none⟩) HL.out.1).trans HL.out.2.1; have g1 : w1.cell? ⟨rb, 1, none⟩ = some (.bool bad) := (hb1.cell (p := ⟨rb, 1, none⟩) HL.out.1).trans HL.out.2.2)
      go_ret
      exact ⟨rfl, _, hb1, rfl⟩
  | some ad =>
    clear hA
    go_enter Tryz.func54, Tryz.ntmps54
    go_wp2
    go_region
    all_goals
      go_wp2_with (go_at_call 113; refine (HT.out _ (by repeat' (first | exact Below.refl _ _ | apply Below.drew | apply Go.below_drewN))).mono ?_; rintro e w1 ⟨rfl, hb1⟩; have f1 : w1.frozen? ⟨rb, 1, none⟩ = false := (hb1.frozen (p := ⟨rb, 1, none⟩) HL.out.1).trans HL.out.2.1; have g1 : w1.cell? ⟨rb, 1, none⟩ = some (.bool bad) := (hb1.cell (p := ⟨rb, 1, none⟩) HL.out.1).trans HL.out.2.2)
      go_ret
      exact ⟨rfl, _, hb1, rfl⟩
set_option maxRecDepth 100000 in
set_option maxHeartbeats 2000000 in
theorem bnumber_yes (rb m h c n k : Nat) (A : Option Addr) (Q : World → Prop) (hh : h = min m 9) (hk : k ≤ h) (hk1 : 1 ≤ k) (hmc : m ≤ c) (hc : c ≤ 9223372036854775807) (hA : A = none → c = 0) (w : World) (h0 : w.cell? ⟨rb, 0, none⟩ = some (.slice A m c))
    (HT : ∀ W, Below w.heap.size w W → Calls Tryz.prog 113 #[.slice A h c] W fun e w' => ∃ A' c', e = .returned (.tuple #[.int .i64 (n : Int), .slice A' (h - k) c', .bool true]) ∧ Below w.heap.size w w')
    (HS : ∀ W, Below w.heap.size w W → Calls Tryz.prog 114 #[.pointer (some ⟨rb, 0, none⟩), .int .i64 (k : Int)] W fun e w' => ∃ v, e = .returned v ∧ Q w') :
    Calls Tryz.prog 54 #[.pointer (some ⟨rb, 0, none⟩)] w fun e w' => e = .returned (.int .i64 (n : Int)) ∧ Q w' := by
  have mixed : Tryz.prog.follows .mixedOrders = true := by kernel_rfl
  have hmin : min 9 (m : Int) = (h : Int) := by omega
  have hhc : h ≤ c := by omega
  have hhz : (h : Int) ≤ (c : Int) := by omega
  have hh0 : (0 : Int) ≤ (h : Int) := by omega
  obtain ⟨j, hj⟩ : ∃ j, h - k = j := ⟨_, rfl⟩
  have hsub : (h : Int) - (j : Int) = (k : Int) := by omega
  obtain ⟨ad, rfl⟩ : ∃ ad, A = some ad := by
    cases A with
    | none => have := hA rfl; omega
    | some ad => exact ⟨ad, rfl⟩
  rw [hj] at HT
  have HT := hid HT
  have HS := hid HS
  clear hh hj hA
  go_enter Tryz.func54, Tryz.ntmps54
  go_wp2
  go_region
  all_goals
    go_wp2_with (first
      | (go_at_call 113; refine (HT.out _ (by repeat' (first | exact Below.refl _ _ | apply Below.drew | apply Go.below_drewN))).mono ?_; rintro e w1 ⟨A', c', rfl, hb1⟩)
      | (go_at_call 114; refine (HS.out _ hb1).mono ?_; rintro e w2 ⟨v, rfl, hQ⟩))
    go_ret
    exact ⟨rfl, hQ⟩
theorem bnumber_any (rb : Nat) (l : List UInt8) (bad : Bool) (w : World) (h : Rs w rb l bad) :
    Calls Tryz.prog 54 #[.pointer (some ⟨rb, 0, none⟩)] w (NuEnd rb l bad w) := by
  have hR := h
  obtain ⟨v, hB, hS⟩ := h
  obtain ⟨A, c, rfl, h2, h3, h4, h5⟩ := hS.form
  have c0 : w.cell? ⟨rb, 0, none⟩ = some (.slice A l.length c) := hB.cell 0
  have e9 : (l.take 9).length = min l.length 9 := by rw [List.length_take, Nat.min_comm]
  have h9 : HoldsA w A (l.take 9) := fun h0 => by
    have hl : 0 < l.length := by rw [List.length_take] at h0; omega
    obtain ⟨b, off, e, hh⟩ := h5 hl
    refine ⟨b, off, e, fun i hi => ?_⟩
    rw [List.length_take] at hi
    rw [hh i (by omega)]
    simp only [List.getD_eq_getElem?_getD, List.getElem?_take_of_lt (show i < 9 by omega)]
  have HT : ∀ W, Below w.heap.size w W → Calls Tryz.prog 113 #[.slice A (min l.length 9) c] W (TEndO W (tk (l.take 9))) := fun W hW => by
    have := take_any A c (l.take 9) (by rw [List.length_take]; omega) (by rw [List.length_take]; omega) h3 W (fun h0 => by
      obtain ⟨b, off, e, hh⟩ := h9 h0
      exact ⟨b, off, e, hh.below hW (hh.lt h0)⟩)
    rwa [e9] at this
  unfold NuEnd
  cases ht : tk l with
  | none =>
    rw [tk9_none ht] at HT
    refine (bnumber_no rb l.length (min l.length 9) c A rfl h2 h3 h4 bad w c0 (hB.cell 1) (hB.free 1) hB.lt (fun W hW => (HT W hW).mono fun e w' ⟨he, hb⟩ => ⟨he, hW.trans (hb.mono hW.size)⟩)).mono fun e w' ⟨he, w1, hb, hw⟩ => ?_
    subst hw
    have hbut : But w.heap.size rb w (w1.setCell ⟨rb, 1, none⟩ (.bool true)) := (But.of_below hb rb).setCell 1 _
    exact ⟨hbut, he, _, (hB.keep hb hB.lt).set 1 _, hS.but hbut⟩
  | some p =>
    obtain ⟨n, r⟩ := p
    obtain ⟨t1, t2, t3⟩ := tk9_some ht
    rw [t1] at HT
    have hlen : (r.take (9 - (numW n).length)).length = min l.length 9 - (numW n).length := by rw [List.length_take]; omega
    have hd : l.drop (numW n).length = r := by rw [tk_back ht, List.drop_left]
    refine (bnumber_yes rb l.length (min l.length 9) c n (numW n).length A (fun w' => But w.heap.size rb w w' ∧ Rs w' rb r bad) rfl (by omega) (numW_pos n) h2 h3 h4 w c0 (fun W hW => (HT W hW).mono fun e w' ⟨v, he, hr, hb⟩ => ?_) (fun W hW => (bsome_any rb l bad (numW n).length (by omega) W (hR.below hW)).mono fun e w' hs => ?_)).mono fun e w' ⟨he, hb, hr⟩ => ⟨hb, he, hr⟩
    · obtain ⟨A', c', rfl, _⟩ := (show ∃ A c, v = .slice A (r.take (9 - (numW n).length)).length c ∧ True from by
        rcases hr.2 with ⟨e, h0⟩ | ⟨g, cap, cur, e, _⟩
        · exact ⟨none, 0, by rw [e, h0], trivial⟩
        · exact ⟨_, _, e, trivial⟩)
      rw [hlen] at he
      exact ⟨A', c', he, hW.trans (hb.mono hW.size)⟩
    · obtain ⟨hbut, hs⟩ := hs
      rw [if_pos (by omega), hd] at hs
      obtain ⟨v, he, _, hr⟩ := hs
      exact ⟨v, he, (But.of_below hW rb).trans (hbut.mono hW.size), hr⟩

/-- What counted leaves: where the bytes aren't such, the reader is bad. -/
def CoEnd (rb : Nat) (l : List UInt8) (bad : Bool) (w : World) (e : Ending) (w' : World) : Prop :=
  But w.heap.size rb w w' ∧ match cntT l with
    | some (x, r) => ∃ v, e = .returned v ∧ Sx w' rb v x ∧ Rs w' rb r bad
    | none => ∃ v r, e = .returned v ∧ Sx w' rb v [] ∧ Rs w' rb r true ∧ r.length ≤ l.length
set_option maxRecDepth 100000 in
set_option maxHeartbeats 2000000 in
theorem bcounted_walk (rb : Nat) (n : Nat) (Q1 : World → Prop) (Q : Value → World → Prop) (w : World)
    (HN : Calls Tryz.prog 54 #[.pointer (some ⟨rb, 0, none⟩)] w fun e w' => e = .returned (.int .i64 (n : Int)) ∧ Q1 w')
    (HS : ∀ W, Q1 W → Calls Tryz.prog 114 #[.pointer (some ⟨rb, 0, none⟩), .int .i64 (n : Int)] W fun e w' => ∃ v, e = .returned v ∧ Q v w') :
    Calls Tryz.prog 116 #[.pointer (some ⟨rb, 0, none⟩)] w fun e w' => ∃ v, e = .returned v ∧ Q v w' := by
  have HN := hid HN
  have HS := hid HS
  go_enter Tryz.func116, Tryz.ntmps116
  go_wp2_with (first
    | (go_at_call 54; refine HN.out.mono ?_; rintro e w1 ⟨rfl, h1⟩)
    | (go_at_call 114; refine (HS.out _ h1).mono ?_; rintro e w2 ⟨v, rfl, hQ⟩))
  go_ret
  exact ⟨_, rfl, hQ⟩
theorem bcounted_any (rb : Nat) (l : List UInt8) (bad : Bool) (w : World) (h : Rs w rb l bad) :
    Calls Tryz.prog 116 #[.pointer (some ⟨rb, 0, none⟩)] w (CoEnd rb l bad w) := by
  have HN := bnumber_any rb l bad w h
  unfold NuEnd at HN
  unfold CoEnd cntT
  cases ht : tk l with
  | none =>
    rw [ht] at HN
    refine (bcounted_walk rb 0 (fun w' => But w.heap.size rb w w' ∧ Rs w' rb l true) (fun v w' => But w.heap.size rb w w' ∧ Sx w' rb v [] ∧ Rs w' rb l true) w (HN.mono fun e w' ⟨a, b, c⟩ => ⟨b, a, c⟩) (fun W ⟨hW, hR⟩ => (bsome_any rb l true 0 (by omega) W hR).mono fun e w' hs => ?_)).mono fun e w' ⟨v, he, hb, hx, hr⟩ => ⟨hb, v, l, he, hx, hr, Nat.le_refl _⟩
    obtain ⟨hbut, hs⟩ := hs
    rw [if_pos (Nat.zero_le _)] at hs
    obtain ⟨v, he, hx, hr⟩ := hs
    exact ⟨v, he, hW.trans (hbut.mono hW.size), hx, hr⟩
  | some p =>
    obtain ⟨n, r⟩ := p
    rw [ht] at HN
    have hn := tk_lt ht
    have hrl : r.length ≤ l.length := by have := congrArg List.length (tk_back ht); rw [List.length_append] at this; omega
    show Calls _ _ _ _ fun e w' => But w.heap.size rb w w' ∧ match (if n ≤ r.length then some (r.take n, r.drop n) else none) with
      | some (x, r) => ∃ v, e = .returned v ∧ Sx w' rb v x ∧ Rs w' rb r bad
      | none => ∃ v r, e = .returned v ∧ Sx w' rb v [] ∧ Rs w' rb r true ∧ r.length ≤ l.length
    by_cases hnr : n ≤ r.length
    · rw [if_pos hnr]
      refine (bcounted_walk rb n (fun w' => But w.heap.size rb w w' ∧ Rs w' rb r bad) (fun v w' => But w.heap.size rb w w' ∧ Sx w' rb v (r.take n) ∧ Rs w' rb (r.drop n) bad) w (HN.mono fun e w' ⟨a, b, c⟩ => ⟨b, a, c⟩) (fun W ⟨hW, hR⟩ => (bsome_any rb r bad n (by omega) W hR).mono fun e w' hs => ?_)).mono fun e w' ⟨v, he, hb, hx, hr⟩ => ⟨hb, v, he, hx, hr⟩
      obtain ⟨hbut, hs⟩ := hs
      rw [if_pos hnr] at hs
      obtain ⟨v, he, hx, hr⟩ := hs
      exact ⟨v, he, hW.trans (hbut.mono hW.size), hx, hr⟩
    · rw [if_neg hnr]
      refine (bcounted_walk rb n (fun w' => But w.heap.size rb w w' ∧ Rs w' rb r bad) (fun v w' => But w.heap.size rb w w' ∧ Sx w' rb v [] ∧ Rs w' rb r true) w (HN.mono fun e w' ⟨a, b, c⟩ => ⟨b, a, c⟩) (fun W ⟨hW, hR⟩ => (bsome_any rb r bad n (by omega) W hR).mono fun e w' hs => ?_)).mono fun e w' ⟨v, he, hb, hx, hr⟩ => ⟨hb, v, r, he, hx, hr, hrl⟩
      obtain ⟨hbut, hs⟩ := hs
      rw [if_neg hnr] at hs
      obtain ⟨he, hr⟩ := hs
      exact ⟨_, he, hW.trans (hbut.mono hW.size), sx_nil _ _, hr⟩
end Go.Proofs.YtjbjdkginemedaaGreatDoor

/- bytes.Compare at slices; append to a slice that is cut at its capacity. Conditions: the slices hold their bytes, a million together at most. -/
namespace Go.Proofs.YtjbjdkginemedaaGreatDoor
open Go.RowKit

theorem run_loadBytes (w : World) : ∀ (l : List UInt8) (b off : Nat) (acc : ByteArray), Holds w b off l → (Extern.Bytes.loadBytes ⟨b, off, none⟩ l.length acc).run Tryz.prog w = .ok ⟨acc.data ++ l.toArray⟩ w
  | [], b, off, acc, _ => by
    show (pure acc : Sem ByteArray).run Tryz.prog w = _
    rw [Sem.run_pure]
    cases acc
    simp
  | x :: l, b, off, acc, h => by
    have hx := h 0 (by simp)
    simp only [List.getD_cons_zero, Nat.add_zero] at hx
    have ht : Holds w b (off + 1) l := h.drop 1
    have ih := run_loadBytes w l b (off + 1) (acc.push x) ht
    show (Extern.Bytes.loadBytes ⟨b, off, none⟩ (l.length + 1) acc).run Tryz.prog w = _
    unfold Extern.Bytes.loadBytes
    have hl : (load ⟨b, off, none⟩).run Tryz.prog w = .ok (.int .u8 (x.toNat : Int)) w := by rw [run_load, hx]
    rw [Sem.run_bind, hl]
    simp only [Result.andThen]
    have e : (((x.toNat : Int)).toNat.toUInt8) = x := by simp
    rw [e, add_zero_off, ih]
    congr 1
    cases acc
    simp [ByteArray.push]
theorem run_bytesOf {w : World} {A : Option Addr} {c : Nat} {l : List UInt8} (h : HoldsA w A l) : (Extern.Bytes.bytesOf (.slice A l.length c)).run Tryz.prog w = .ok ⟨l.toArray⟩ w := by
  cases A with
  | none =>
    have h0 : l = [] := by
      cases l with
      | nil => rfl
      | cons y t => obtain ⟨b, off, e, _⟩ := h (by simp); cases e
    subst h0
    rfl
  | some a =>
    by_cases h0 : 0 < l.length
    · obtain ⟨b, off, e, hh⟩ := h h0
      cases e
      have := run_loadBytes w l b off .empty hh
      show (Extern.Bytes.loadBytes ⟨b, off, none⟩ l.length .empty).run Tryz.prog w = _
      rw [this]
      simp [ByteArray.empty, ByteArray.emptyWithCapacity]
      rfl
    · have h0 : l = [] := List.eq_nil_of_length_eq_zero (by omega)
      subst h0
      rfl
theorem run_compareBytes {w : World} {A1 A2 : Option Addr} {c1 c2 : Nat} {l1 l2 : List UInt8} (h1 : HoldsA w A1 l1) (h2 : HoldsA w A2 l2) :
    (Extern.BytealgCompare.compare #[.slice A1 l1.length c1, .slice A2 l2.length c2]).run Tryz.prog w = .ok (.int .i64 (Lib.compareBytes l1 l2)) w := by
  change Sem.run Tryz.prog (do pure (goInt (Extern.BytealgCompare.cmp (← Extern.Bytes.bytesOf (.slice A1 l1.length c1)) (← Extern.Bytes.bytesOf (.slice A2 l2.length c2))))) w = _
  rw [Sem.run_bind, run_bytesOf h1]
  simp only [Result.andThen]
  rw [Sem.run_bind, run_bytesOf h2]
  simp only [Result.andThen, Sem.run_pure]
  rw [Lib.cmp_eq]
  rfl
set_option maxRecDepth 100000 in
set_option maxHeartbeats 1000000 in
theorem bcompare_any (A1 A2 : Option Addr) (c1 c2 : Nat) (l1 l2 : List UInt8) (w : World) (h1 : HoldsA w A1 l1) (h2 : HoldsA w A2 l2) :
    Calls Tryz.prog 40 #[.slice A1 l1.length c1, .slice A2 l2.length c2] w fun e w' => e = .returned (.int .i64 (Lib.compareBytes l1 l2)) ∧ w' = w := by
  have hrun := run_compareBytes (c1 := c1) (c2 := c2) h1 h2
  obtain ⟨n1, hn1⟩ : ∃ n, l1.length = n := ⟨_, rfl⟩
  obtain ⟨n2, hn2⟩ : ∃ n, l2.length = n := ⟨_, rfl⟩
  obtain ⟨o, ho⟩ : ∃ o, Lib.compareBytes l1 l2 = o := ⟨_, rfl⟩
  rw [hn1, hn2, ho] at hrun
  rw [hn1, hn2, ho]
  clear hn1 hn2 ho h1 h2
  go_enter Tryz.func40, Tryz.ntmps40
  go_wp2
  rw [run_callFunc_extern Tryz.func100 (by kernel_rfl) (by kernel_rfl) (by kernel_rfl) (e := Extern.BytealgCompare.compare) (by kernel_rfl), hrun]
  simp only [Result.andThen]
  rw [Oper.upon_value]
  go_wp2
  go_ret
  exact ⟨rfl, rfl⟩

/-- append to a slice that has no room behind it: nothing happens, or a new row is made. -/
theorem run_append_cut (w : World) (ty : TypeId) (A : Option Addr) (n : Nat) (olds : List UInt8) (ho : olds.length = n) (hA : HoldsA w A olds) (hnil : A = none → n = 0) (A2 : Option Addr) (m c2 : Nat) (left : List UInt8) (hm : left.length = m) (h2 : HoldsA w A2 left) (hlen : n + m ≤ 1000000) :
    ∃ v' w', (Builtin.append_ #[30, 30] ty #[.slice A n n, .slice A2 m c2]).run Tryz.prog w = .ok v' w' ∧ Below w.heap.size w w' ∧ ((left = [] ∧ v' = .slice A n n ∧ w' = w) ∨ (left ≠ [] ∧ Row w' w.heap.size v' (olds ++ left))) := by
  obtain ⟨i0, hi, hz0, hz1, hz2⟩ := info_parts info_u8
  by_cases hl : left = []
  · subst hl
    subst hm
    refine ⟨_, w, ?_, Below.refl _ _, .inl ⟨rfl, rfl, rfl⟩⟩
    have hs : Src Tryz.prog i0.size 30 (.slice A2 0 c2) 0 [] w := by
      cases A2 with
      | none => exact Src.ofNil w Tryz.underlying30 c2
      | some a => exact Src.ofSlice w Tryz.underlying30 a 0 c2 [] (by simp) (fun j u h => by simp at h) (fun u h => by cases h)
    exact Go.run_append_nothing (P := Tryz.prog) w 30 30 ty 5 i0 Tryz.underlying30 hi A n n (Nat.le_refl _) (.slice A2 0 c2) hs
  · have hpos : 0 < left.length := List.length_pos_iff.2 hl
    obtain ⟨b2, o2, e2, hh2⟩ := h2 hpos
    subst e2
    have cells : ∀ (l : List UInt8) (b off : Nat), Holds w b off l → ∀ j u, (bc l)[j]? = some u → w.cell? ((⟨b, off, none⟩ : Addr).add j) = some u := fun l b off hh j u hj => by
      have hjn : j < l.length := by
        rcases Nat.lt_or_ge j l.length with h1 | h1
        · exact h1
        · rw [bc_at, List.getElem?_eq_none h1] at hj; cases hj
      rw [add_zero_off, hh j hjn, ← hj, bc_at, List.getElem?_eq_getElem hjn, List.getD_eq_getElem?_getD, List.getElem?_eq_getElem hjn]
      rfl
    have fin : ∀ (W : World) (cap : Nat) (hcap : n + m ≤ cap) (hcap2 : cap ≤ maxLen), Row (W.alloc (.cells ((bc (olds ++ left)).toArray ++ Builtin.zeroCells (Value.int .u8 0).cells (cap - (n + m))) 5)) W.heap.size (.slice (some ⟨W.heap.size, 0, none⟩) (n + m) cap) (olds ++ left) := fun W cap hcap hcap2 => by
      refine ⟨by rw [bc_len]; omega, .inr ⟨W.heap.size, cap, _, by rw [List.length_append, ho, hm], Nat.le_refl _, heap_alloc_new W _, by rw [List.length_append]; omega, hcap2, ?_, ?_⟩⟩
      · simp [Builtin.zeroCells, bc_len, ho, hm, Value.cells]; omega
      · rw [Array.toList_append, List.take_append_of_le_length (by simp [bc_len, ho, hm]), List.take_of_length_le (by simp [bc_len, ho, hm])]
    have hgc : ∀ old, grownCap w (n + m) old 5 ≤ maxLen := fun old => grownCap_le_maxLen w _ old 5 (by unfold maxLen; omega)
    by_cases hn0 : A = none
    · have h0 := hnil hn0
      subst hn0
      have eo : olds = [] := List.eq_nil_of_length_eq_zero (by omega)
      subst h0
      subst eo
      have hr := run_append_nil (P := Tryz.prog) w 30 ty 5 i0 (.int .u8 0) Tryz.underlying30 hi hz0 ⟨b2, o2, none⟩ m c2 (bc left) (by rw [hz1, bc_len]; omega) (cells left b2 o2 hh2) (by omega) (by omega) (by rw [hz2]; omega)
      refine ⟨_, _, hr, (Below.drew (Below.refl _ _)).alloc (by simp) _, .inr ⟨hl, ?_⟩⟩
      have := fin w.drew (grownCap w m 0 5) (by have := grownCap_ge w m 0 5; omega) (by have := hgc 0; rwa [Nat.zero_add] at this)
      simpa using this
    · obtain ⟨a, ea⟩ : ∃ a, A = some a := by
        cases A with
        | none => exact absurd rfl hn0
        | some a => exact ⟨a, rfl⟩
      subst ea
      have hco : ∀ j u, (bc olds)[j]? = some u → w.cell? (a.add j) = some u := fun j u hj => by
        have hjn : 0 < olds.length := by
          rcases Nat.eq_zero_or_pos olds.length with h1 | h1
          · rw [bc_at, List.getElem?_eq_none (by omega)] at hj; cases hj
          · exact h1
        obtain ⟨b, off, e, hh⟩ := hA hjn
        cases e
        exact cells olds b off hh j u hj
      have hr := run_append_grow (P := Tryz.prog) w 30 ty 5 i0 (.int .u8 0) Tryz.underlying30 hi hz0 a n n (bc olds) (by rw [hz1, bc_len]; omega) hco ⟨b2, o2, none⟩ m c2 (bc left) (by rw [hz1, bc_len]; omega) (cells left b2 o2 hh2) (by omega) (by omega) (by rw [hz2]; exact growslice_fits (by omega) (by omega))
      refine ⟨_, _, hr, (Below.drew (Below.refl _ _)).alloc (by simp) _, .inr ⟨hl, ?_⟩⟩
      have := fin w.drew (grownCap w (n + m) n 5) (by have := grownCap_ge w (n + m) n 5; omega) (hgc n)
      rw [bc_app] at this
      simpa using this
end Go.Proofs.YtjbjdkginemedaaGreatDoor

/- block.alike at every two rows of bytes. Conditions: both stand, with a million bytes at most. -/
namespace Go.Proofs.YtjbjdkginemedaaGreatDoor
open Go.RowKit

theorem preL_next {l m : List UInt8} {k : Nat} {x : UInt8} (h1 : l[k]? = some x) (h2 : m[k]? = some x) : preL (l.drop k) (m.drop k) = 1 + preL (l.drop (k + 1)) (m.drop (k + 1)) := by
  obtain ⟨g1, rfl⟩ := List.getElem?_eq_some_iff.1 h1
  obtain ⟨g2, e⟩ := List.getElem?_eq_some_iff.1 h2
  rw [List.drop_eq_getElem_cons g1, List.drop_eq_getElem_cons g2, e]
  rw [preL, if_pos rfl]
  omega
theorem preL_other {l m : List UInt8} {k : Nat} {x y : UInt8} (h1 : l[k]? = some x) (h2 : m[k]? = some y) (h : x ≠ y) : preL (l.drop k) (m.drop k) = 0 := by
  obtain ⟨g1, rfl⟩ := List.getElem?_eq_some_iff.1 h1
  obtain ⟨g2, rfl⟩ := List.getElem?_eq_some_iff.1 h2
  rw [List.drop_eq_getElem_cons g1, List.drop_eq_getElem_cons g2]
  rw [preL, if_neg h]
theorem preL_end {l m : List UInt8} {k : Nat} (h : l.length ≤ k ∨ m.length ≤ k) : preL (l.drop k) (m.drop k) = 0 := by
  rcases h with h | h
  · rw [List.drop_of_length_le h]
    simp [preL]
  · rw [List.drop_of_length_le h]
    cases l.drop k <;> simp [preL]

set_option maxHeartbeats 4000000 in
theorem alike_any (A1 A2 : Option Addr) (c1 c2 : Nat) (l1 l2 : List UInt8) (hl1 : l1.length ≤ 1000000) (w : World) (h1 : HoldsA w A1 l1) (h2 : HoldsA w A2 l2) :
    Calls Tryz.prog 41 #[.slice A1 l1.length c1, .slice A2 l2.length c2] w fun e w' => e = .returned (.int .i64 (preL l1 l2 : Int)) ∧ Below w.heap.size w w' := by
  have mixed : Tryz.prog.follows .mixedOrders = true := by kernel_rfl
  have K1 := hid h1
  have K2 := hid h2
  clear h1 h2
  obtain ⟨n1, hn1⟩ : ∃ n1, l1.length = n1 := ⟨_, rfl⟩
  obtain ⟨n2, hn2⟩ : ∃ n2, l2.length = n2 := ⟨_, rfl⟩
  have H1 := hid hn1
  have H2 := hid hn2
  rw [hn1] at hl1
  rw [hn1, hn2]
  clear hn1 hn2
  obtain ⟨n, hn⟩ : ∃ n : Nat, n = min n1 n2 := ⟨_, rfl⟩
  have hmin : min (n1 : Int) (n2 : Int) = (n : Int) := by omega
  have hna : n ≤ n1 := by omega
  have hnb : n ≤ n2 := by omega
  have HN : Hid (n1 ≤ n ∨ n2 ≤ n) := by show n1 ≤ n ∨ n2 ≤ n; omega
  clear hn
  obtain ⟨R, hR⟩ : ∃ R : Nat, preL l1 l2 = R := ⟨_, rfl⟩
  have HR := hid hR
  rw [hR]
  clear hR
  go_enter Tryz.func41, Tryz.ntmps41
  go_wp2
  clear hmin
  go_loopw [13] (fun vi wr => ∃ k m : Nat, k ≤ n ∧ vi = .int .i64 k ∧ Hid (R = k + preL (l1.drop k) (l2.drop k)) ∧ wr = w.drewN m) (fun vi _ => n - (intOf vi).toNat)
  case atStart => exact ⟨0, 0, by omega, rfl, by show R = _; rw [← HR.out, List.drop_zero, List.drop_zero]; omega, rfl⟩
  case round =>
    obtain ⟨k, m, hk, rfl, HE, rfl⟩ := hrel
    by_cases hlt : k < n
    · have g1 : k < l1.length := by rw [H1.out]; omega
      have g2 : k < l2.length := by rw [H2.out]; omega
      have hz1 : (k : Int) < (n1 : Int) := by omega
      have hz2 : (k : Int) < (n2 : Int) := by omega
      obtain ⟨b1, o1, e1, hh1⟩ := K1.out (by omega)
      obtain ⟨b2, o2, e2, hh2⟩ := K2.out (by omega)
      subst e1 e2
      have q1 := hh1 k g1
      have q2 := hh2 k g2
      rw [List.getD_eq_getElem?_getD, List.getElem?_eq_getElem g1, Option.getD_some] at q1
      rw [List.getD_eq_getElem?_getD, List.getElem?_eq_getElem g2, Option.getD_some] at q2
      have L1 := hid (List.getElem?_eq_getElem g1)
      have L2 := hid (List.getElem?_eq_getElem g2)
      obtain ⟨u, hu⟩ : ∃ u, l1[k] = u := ⟨_, rfl⟩
      obtain ⟨v, hv⟩ : ∃ v, l2[k] = v := ⟨_, rfl⟩
      rw [hu] at q1 L1
      rw [hv] at q2 L2
      clear hu hv hh1 hh2 g1 g2
      by_cases hxy : u = v
      · subst hxy
        have HE2 : Hid (R = (k + 1) + preL (l1.drop (k + 1)) (l2.drop (k + 1))) := by
          have := HE.out
          rw [preL_next L1.out L2.out] at this
          show R = _
          omega
        have hb : (((u.toNat : Nat) : Int) != ((u.toNat : Nat) : Int)) = false := by simp
        obtain ⟨x, hx⟩ : ∃ x : Int, ((u.toNat : Nat) : Int) = x := ⟨_, rfl⟩
        rw [hx] at q1 q2 hb
        clear hx L1 L2 HE
        go_wp2
        go_region
        all_goals
          go_wp2
          go_roundw
          case rel => exact ⟨k + 1, _, by omega, by go_num, HE2.out, rfl⟩
          case measure => simp [intOf]; omega
      · have HR2 : Hid (R = k) := by
          have := HE.out
          rw [preL_other L1.out L2.out hxy] at this
          exact this
        have hne : ((u.toNat : Nat) : Int) ≠ ((v.toNat : Nat) : Int) := fun e => hxy (UInt8.toNat_inj.1 (by omega))
        obtain ⟨x, hx⟩ : ∃ x : Int, ((u.toNat : Nat) : Int) = x := ⟨_, rfl⟩
        obtain ⟨y, hy⟩ : ∃ y : Int, ((v.toNat : Nat) : Int) = y := ⟨_, rfl⟩
        rw [hx] at q1 hne
        rw [hy] at q2 hne
        have hb : (x != y) = true := by simpa using hne
        clear hx hy L1 L2 HE hxy hne
        go_wp2
        go_region
        all_goals
          go_wp2
          go_ret
          exact ⟨by rw [HR2.out]; rfl, by repeat' (first | exact Below.refl _ _ | apply Below.drew | apply Go.below_drewN)⟩
    · obtain rfl : k = n := by omega
      have HR2 : Hid (R = k) := by
        have := HE.out
        rw [preL_end (by rw [H1.out, H2.out]; exact HN.out)] at this
        exact this
      clear HE
      go_wp2
      go_ret
      exact ⟨by rw [HR2.out]; rfl, Go.below_drewN (Below.refl _ _) _⟩
end Go.Proofs.YtjbjdkginemedaaGreatDoor

/- The block's reader: the next key, by the key ahead of it. Conditions: the reader holds its bytes, the key ahead stands, a million bytes together at most. -/
namespace Go.Proofs.YtjbjdkginemedaaGreatDoor
open Go.RowKit

section
variable {rb n m c k : Nat} {A : Option Addr} {w : World} {Q1 : World → Prop} {Q2 Q3 : Option Addr → Nat → World → Prop}
set_option maxRecDepth 100000 in
set_option maxHeartbeats 2000000 in
theorem bkey_great (hn : m < n)
    (HN : Calls Tryz.prog 54 #[.pointer (some ⟨rb, 0, none⟩)] w fun e w' => e = .returned (.int .i64 (n : Int)) ∧ Q1 w')
    (HC : ∀ W, Q1 W → Calls Tryz.prog 116 #[.pointer (some ⟨rb, 0, none⟩)] W fun e w' => ∃ A2 c2, e = .returned (.slice A2 k c2) ∧ Q2 A2 c2 w')
    (HF : ∀ A2 c2 W, Q2 A2 c2 W → W.frozen? ⟨rb, 1, none⟩ = false ∧ ∃ x, W.cell? ⟨rb, 1, none⟩ = some (.bool x)) :
    Calls Tryz.prog 115 #[.pointer (some ⟨rb, 0, none⟩), .slice A m c] w fun e w' => e = .returned (.slice none 0 0) ∧ ∃ A2 c2 W, Q2 A2 c2 W ∧ w' = W.setCell ⟨rb, 1, none⟩ (.bool true) := by
  have hz : (m : Int) < (n : Int) := by omega
  have HN := hid HN
  have HC := hid HC
  have HF := hid HF
  go_enter Tryz.func115, Tryz.ntmps115
  go_wp2_with (first
    | (go_at_call 54; refine HN.out.mono ?_; rintro e w1 ⟨rfl, h1⟩)
    | (go_at_call 116; refine (HC.out _ h1).mono ?_; rintro e w2 ⟨A2, c2, rfl, h2⟩; have hq2 := hid h2; obtain ⟨f1, x1, g1⟩ := HF.out _ _ _ h2; clear h2))
  go_ret
  exact ⟨rfl, _, _, _, hq2.out, rfl⟩

/-- The walk of key where the number is that of bytes of the key ahead. -/
structure KyH (rb n m k k3 : Nat) (c : Nat) (A : Option Addr) (o : Int) (p : Nat) (w : World) (Q1 : World → Prop) (Q2 Q3 : Option Addr → Nat → World → Prop) : Prop where
  num : Calls Tryz.prog 54 #[.pointer (some ⟨rb, 0, none⟩)] w fun e w' => e = .returned (.int .i64 (n : Int)) ∧ Q1 w'
  cou : ∀ W, Q1 W → Calls Tryz.prog 116 #[.pointer (some ⟨rb, 0, none⟩)] W fun e w' => ∃ A2 c2, e = .returned (.slice A2 k c2) ∧ Q2 A2 c2 w'
  app : ∀ A2 c2 W, Q2 A2 c2 W → ∃ A3 c3 W', (Builtin.append_ #[30, 30] 30 #[.slice A n n, .slice A2 k c2]).run Tryz.prog W = .ok (.slice A3 k3 c3) W' ∧ Q3 A3 c3 W'
  ali : ∀ A3 c3 W, Q3 A3 c3 W → Calls Tryz.prog 41 #[.slice A m c, .slice A3 k3 c3] W fun e w' => e = .returned (.int .i64 (p : Int)) ∧ Q3 A3 c3 w'
  cmp : ∀ A3 c3 W, Q3 A3 c3 W → Calls Tryz.prog 40 #[.slice A m c, .slice A3 k3 c3] W fun e w' => e = .returned (.int .i64 o) ∧ Q3 A3 c3 w'
  drw : ∀ A3 c3 W, Q3 A3 c3 W → Q3 A3 c3 W.drew
  fre : ∀ A3 c3 W, Q3 A3 c3 W → W.frozen? ⟨rb, 1, none⟩ = false ∧ ∃ x, W.cell? ⟨rb, 1, none⟩ = some (.bool x)
set_option maxRecDepth 100000 in
set_option maxHeartbeats 2000000 in
theorem bkey_good {k3 p : Nat} {o : Int} (hn : n ≤ m) (hm : m ≤ c) (hc : c ≤ 9223372036854775807) (hA : A = none → c = 0) (hp : p = n) (ho : o < 0) (H : KyH rb n m k k3 c A o p w Q1 Q2 Q3) :
    Calls Tryz.prog 115 #[.pointer (some ⟨rb, 0, none⟩), .slice A m c] w fun e w' => ∃ A3 c3, e = .returned (.slice A3 k3 c3) ∧ Q3 A3 c3 w' := by
  subst hp
  have hz : ¬ (m : Int) < (p : Int) := by omega
  have hoz : ¬ 0 ≤ o := by omega
  have H := hid H
  cases A with
  | none =>
    obtain rfl := hA rfl
    obtain rfl : m = 0 := by omega
    obtain rfl : p = 0 := by omega
    clear hA hn hm
    go_enter Tryz.func115, Tryz.ntmps115
    go_wp2_with (first
      | (go_at_call 54; refine H.out.num.mono ?_; rintro e w1 ⟨rfl, h1⟩)
      | (go_at_call 116; refine (H.out.cou _ h1).mono ?_; rintro e w2 ⟨A2, c2, rfl, h2⟩; obtain ⟨A3, c3, w3, hrun, h3⟩ := H.out.app _ _ _ h2)
      | (at_builtin; refine Lib.wpList_append_run _ rfl (.tmp 22) (.tmp 23) 30 30 rfl _ _ rfl rfl _ w3 hrun ?_)
      | (go_at_call 41; refine (H.out.ali _ _ _ h3).mono ?_; rintro e w4 ⟨rfl, h4⟩)
      | (go_at_call 40; refine (H.out.cmp _ _ _ h4).mono ?_; rintro e w5 ⟨rfl, h5⟩))
    go_ret
    exact ⟨_, _, rfl, h5⟩
  | some ad =>
    clear hA
    go_enter Tryz.func115, Tryz.ntmps115
    go_wp2_with (first
      | (go_at_call 54; refine H.out.num.mono ?_; rintro e w1 ⟨rfl, h1⟩)
      | (go_at_call 116; refine (H.out.cou _ h1).mono ?_; rintro e w2 ⟨A2, c2, rfl, h2⟩; obtain ⟨A3, c3, w3, hrun, h3⟩ := H.out.app _ _ _ h2)
      | (at_builtin; refine Lib.wpList_append_run _ rfl (.tmp 22) (.tmp 23) 30 30 rfl _ _ rfl rfl _ w3 hrun ?_)
      | (go_at_call 41; refine (H.out.ali _ _ _ h3).mono ?_; rintro e w4 ⟨rfl, h4⟩)
      | (go_at_call 40; refine (H.out.cmp _ _ _ h4).mono ?_; rintro e w5 ⟨rfl, h5⟩))
    go_ret
    exact ⟨_, _, rfl, h5⟩
set_option maxRecDepth 100000 in
set_option maxHeartbeats 2000000 in
theorem bkey_less {k3 p : Nat} {o : Int} (hn : n ≤ m) (hm : m ≤ c) (hc : c ≤ 9223372036854775807) (hA : A = none → c = 0) (hp : p = n) (ho : 0 ≤ o) (H : KyH rb n m k k3 c A o p w Q1 Q2 Q3) :
    Calls Tryz.prog 115 #[.pointer (some ⟨rb, 0, none⟩), .slice A m c] w fun e w' => ∃ A3 c3, e = .returned (.slice A3 k3 c3) ∧ ∃ W, Q3 A3 c3 W ∧ w' = W.setCell ⟨rb, 1, none⟩ (.bool true) := by
  subst hp
  have hz : ¬ (m : Int) < (p : Int) := by omega
  have H := hid H
  cases A with
  | none =>
    obtain rfl := hA rfl
    obtain rfl : m = 0 := by omega
    obtain rfl : p = 0 := by omega
    clear hA hn hm
    go_enter Tryz.func115, Tryz.ntmps115
    go_wp2_with (first
      | (go_at_call 54; refine H.out.num.mono ?_; rintro e w1 ⟨rfl, h1⟩)
      | (go_at_call 116; refine (H.out.cou _ h1).mono ?_; rintro e w2 ⟨A2, c2, rfl, h2⟩; obtain ⟨A3, c3, w3, hrun, h3⟩ := H.out.app _ _ _ h2)
      | (at_builtin; refine Lib.wpList_append_run _ rfl (.tmp 22) (.tmp 23) 30 30 rfl _ _ rfl rfl _ w3 hrun ?_)
      | (go_at_call 41; refine (H.out.ali _ _ _ h3).mono ?_; rintro e w4 ⟨rfl, h4⟩)
      | (go_at_call 40; refine (H.out.cmp _ _ _ h4).mono ?_; rintro e w5 ⟨rfl, h5⟩; obtain ⟨f5, x5, g5⟩ := H.out.fre _ _ _ h5))
    go_ret
    exact ⟨_, _, rfl, _, h5, rfl⟩
  | some ad =>
    clear hA
    go_enter Tryz.func115, Tryz.ntmps115
    go_wp2_with (first
      | (go_at_call 54; refine H.out.num.mono ?_; rintro e w1 ⟨rfl, h1⟩)
      | (go_at_call 116; refine (H.out.cou _ h1).mono ?_; rintro e w2 ⟨A2, c2, rfl, h2⟩; obtain ⟨A3, c3, w3, hrun, h3⟩ := H.out.app _ _ _ h2)
      | (at_builtin; refine Lib.wpList_append_run _ rfl (.tmp 22) (.tmp 23) 30 30 rfl _ _ rfl rfl _ w3 hrun ?_)
      | (go_at_call 41; refine (H.out.ali _ _ _ h3).mono ?_; rintro e w4 ⟨rfl, h4⟩)
      | (go_at_call 40; refine (H.out.cmp _ _ _ h4).mono ?_; rintro e w5 ⟨rfl, h5⟩; obtain ⟨f5, x5, g5⟩ := H.out.fre _ _ _ h5))
    go_ret
    exact ⟨_, _, rfl, _, h5, rfl⟩
set_option maxRecDepth 100000 in
set_option maxHeartbeats 2000000 in
theorem bkey_other {k3 p : Nat} {o : Int} (hn : n ≤ m) (hm : m ≤ c) (hc : c ≤ 9223372036854775807) (hA : A = none → c = 0) (hp : p ≠ n) (H : KyH rb n m k k3 c A o p w Q1 Q2 Q3) :
    Calls Tryz.prog 115 #[.pointer (some ⟨rb, 0, none⟩), .slice A m c] w fun e w' => ∃ A3 c3, e = .returned (.slice A3 k3 c3) ∧ ∃ W, Q3 A3 c3 W ∧ w' = W.setCell ⟨rb, 1, none⟩ (.bool true) := by
  have hz : ¬ (m : Int) < (n : Int) := by omega
  have hpz : ((p : Int) != (n : Int)) = true := by simp; omega
  have H := hid H
  cases A with
  | none =>
    obtain rfl := hA rfl
    obtain rfl : m = 0 := by omega
    obtain rfl : n = 0 := by omega
    clear hA hn hm
    go_enter Tryz.func115, Tryz.ntmps115
    go_wp2_with (first
      | (go_at_call 54; refine H.out.num.mono ?_; rintro e w1 ⟨rfl, h1⟩)
      | (go_at_call 116; refine (H.out.cou _ h1).mono ?_; rintro e w2 ⟨A2, c2, rfl, h2⟩; obtain ⟨A3, c3, w3, hrun, h3⟩ := H.out.app _ _ _ h2)
      | (at_builtin; refine Lib.wpList_append_run _ rfl (.tmp 22) (.tmp 23) 30 30 rfl _ _ rfl rfl _ w3 hrun ?_)
      | (go_at_call 41; refine (H.out.ali _ _ _ h3).mono ?_; rintro e w4 ⟨rfl, h4⟩; obtain ⟨f4, x4, g4⟩ := H.out.fre _ _ _ h4))
    go_ret
    exact ⟨_, _, rfl, _, h4, rfl⟩
  | some ad =>
    clear hA
    go_enter Tryz.func115, Tryz.ntmps115
    go_wp2_with (first
      | (go_at_call 54; refine H.out.num.mono ?_; rintro e w1 ⟨rfl, h1⟩)
      | (go_at_call 116; refine (H.out.cou _ h1).mono ?_; rintro e w2 ⟨A2, c2, rfl, h2⟩; obtain ⟨A3, c3, w3, hrun, h3⟩ := H.out.app _ _ _ h2)
      | (at_builtin; refine Lib.wpList_append_run _ rfl (.tmp 22) (.tmp 23) 30 30 rfl _ _ rfl rfl _ w3 hrun ?_)
      | (go_at_call 41; refine (H.out.ali _ _ _ h3).mono ?_; rintro e w4 ⟨rfl, h4⟩; obtain ⟨f4, x4, g4⟩ := H.out.fre _ _ _ h4))
    go_ret
    exact ⟨_, _, rfl, _, h4, rfl⟩
end

/-- The slice stands in memory from block B on. -/
def FrV (B : Nat) (v : Value) : Prop := ∀ a m c, v = .slice (some a) m c → B ≤ a.block
theorem cmp_take : ∀ (a : List UInt8) (n : Nat), ¬ Lib.compareBytes a (a.take n) < 0
  | [], n => by rw [List.take_nil]; unfold Lib.compareBytes; omega
  | x :: a, 0 => by rw [List.take_zero]; unfold Lib.compareBytes; omega
  | x :: a, n + 1 => by
    rw [List.take_succ_cons]
    unfold Lib.compareBytes
    rw [if_neg (by simp), if_neg (by simp)]
    exact cmp_take a n
/-- What key leaves: where no such key stands there, the reader is bad. -/
def KyEnd (rb : Nat) (a l : List UInt8) (bad : Bool) (w : World) (e : Ending) (w' : World) : Prop :=
  But w.heap.size rb w w' ∧ match keyT a l with
    | some (k, s) => ∃ v, e = .returned v ∧ Sx w' rb v k ∧ Rs w' rb s bad ∧ FrV w.heap.size v
    | none => ∃ v k r, e = .returned v ∧ Sx w' rb v k ∧ Rs w' rb r true ∧ k.length + r.length ≤ a.length + l.length
theorem Rs.b1 {w : World} {rb : Nat} {l : List UInt8} {bad : Bool} (h : Rs w rb l bad) : w.frozen? ⟨rb, 1, none⟩ = false ∧ ∃ x, w.cell? ⟨rb, 1, none⟩ = some (.bool x) := by
  obtain ⟨v, h, _⟩ := h
  exact ⟨h.free 1, bad, h.cell 1⟩
theorem Rs.spoil {w : World} {rb : Nat} {l : List UInt8} {bad : Bool} (h : Rs w rb l bad) : Rs (w.setCell ⟨rb, 1, none⟩ (.bool true)) rb l true ∧ But w.heap.size rb w (w.setCell ⟨rb, 1, none⟩ (.bool true)) := by
  obtain ⟨v, h, hx⟩ := h
  have hb : But w.heap.size rb w (w.setCell ⟨rb, 1, none⟩ (.bool true)) := (But.refl _ _ _).setCell 1 _
  exact ⟨⟨v, h.set 1 _, hx.but hb⟩, hb⟩
/-- The number and what is counted, of whatever bytes. -/
def twoT (l : List UInt8) : Nat × List UInt8 × List UInt8 × Bool := match tk l with
  | none => (0, [], l, false)
  | some (n, r) => match cntT r with
    | none => (n, [], r, false)
    | some (x, s) => (n, x, s, true)
theorem key_two (a l : List UInt8) : keyT a l = if (twoT l).2.2.2 = true ∧ (twoT l).1 ≤ a.length ∧ preL a (a.take (twoT l).1 ++ (twoT l).2.1) = (twoT l).1 ∧ Lib.compareBytes a (a.take (twoT l).1 ++ (twoT l).2.1) < 0 then some (a.take (twoT l).1 ++ (twoT l).2.1, (twoT l).2.2.1) else none := by
  unfold keyT twoT
  cases tk l with
  | none => simp
  | some p =>
    obtain ⟨n, r⟩ := p
    simp only
    cases cntT r with
    | none => simp
    | some q =>
      obtain ⟨x, s⟩ := q
      simp only [true_and]
      by_cases h1 : n ≤ a.length
      · simp only [h1, if_true, true_and]
      · simp only [h1, if_false, false_and]

theorem bkey_any (rb : Nat) (a l : List UInt8) (bad : Bool) (v : Value) (hal : a.length + l.length ≤ 1000000) (w : World) (h : Rs w rb l bad) (ha : Sx w rb v a) :
    Calls Tryz.prog 115 #[.pointer (some ⟨rb, 0, none⟩), v] w (KyEnd rb a l bad w) := by
  have ha' := ha
  obtain ⟨A, c, rfl, hc1, hc2, hnil, hA⟩ := ha.form
  have hHA : ∀ W, But w.heap.size rb w W → HoldsA W A a := fun W hW => (ha'.but hW).holds.2.2.2.2
  -- the number, and what is counted
  have HN : Calls Tryz.prog 54 #[.pointer (some ⟨rb, 0, none⟩)] w fun e w' => e = .returned (.int .i64 ((twoT l).1 : Int)) ∧ (But w.heap.size rb w w' ∧ match tk l with | some (_, r) => Rs w' rb r bad | none => Rs w' rb l true) := by
    refine (bnumber_any rb l bad w h).mono fun e w' hn => ?_
    unfold NuEnd at hn
    unfold twoT
    cases ht : tk l with
    | none => rw [ht] at hn; exact ⟨hn.2.1, hn.1, hn.2.2⟩
    | some p =>
      obtain ⟨n, r⟩ := p
      rw [ht] at hn
      refine ⟨?_, hn.1, hn.2.2⟩
      rw [hn.2.1]
      simp only
      cases cntT r with
      | none => rfl
      | some q => rfl
  have HC : ∀ W, (But w.heap.size rb w W ∧ match tk l with | some (_, r) => Rs W rb r bad | none => Rs W rb l true) → Calls Tryz.prog 116 #[.pointer (some ⟨rb, 0, none⟩)] W fun e w' => ∃ A2 c2, e = .returned (.slice A2 (twoT l).2.1.length c2) ∧ (But w.heap.size rb w w' ∧ Sx w' rb (.slice A2 (twoT l).2.1.length c2) (twoT l).2.1 ∧ ∃ r b, Rs w' rb r b ∧ ((twoT l).2.2.2 = true → r = (twoT l).2.2.1 ∧ b = bad) ∧ ((twoT l).2.2.2 = false → b = true ∧ r.length ≤ l.length)) := by
    rintro W ⟨hW, hR⟩
    have fin : ∀ (w' : World) (x : List UInt8) (v : Value), Sx w' rb v x → ∃ A2 c2, v = .slice A2 x.length c2 := fun w' x v hx => by
      obtain ⟨A, c, e, _⟩ := hx
      exact ⟨A, c, e⟩
    unfold twoT
    cases ht : tk l with
    | none =>
      rw [ht] at hR
      refine (bcounted_any rb l true W hR).mono fun e w' hx => ?_
      unfold CoEnd at hx
      have hc0 : cntT l = none := by unfold cntT; rw [ht]
      rw [hc0] at hx
      obtain ⟨hb, u, r, he, hs, hr, hrl⟩ := hx
      obtain ⟨A2, c2, rfl⟩ := fin _ _ _ hs
      exact ⟨A2, c2, he, hW.trans (hb.mono hW.size), hs, r, true, hr, (fun e => by cases e), (fun _ => ⟨rfl, hrl⟩)⟩
    | some p =>
      obtain ⟨n, r0⟩ := p
      rw [ht] at hR
      have hrl0 : r0.length ≤ l.length := by have := congrArg List.length (tk_back ht); rw [List.length_append] at this; omega
      refine (bcounted_any rb r0 bad W hR).mono fun e w' hx => ?_
      unfold CoEnd at hx
      simp only
      cases hc0 : cntT r0 with
      | none =>
        rw [hc0] at hx
        obtain ⟨hb, u, r, he, hs, hr, hrl⟩ := hx
        obtain ⟨A2, c2, rfl⟩ := fin _ _ _ hs
        exact ⟨A2, c2, he, hW.trans (hb.mono hW.size), hs, r, true, hr, fun e => (by cases e), fun _ => ⟨rfl, by omega⟩⟩
      | some q =>
        obtain ⟨x, s⟩ := q
        rw [hc0] at hx
        obtain ⟨hb, u, he, hs, hr⟩ := hx
        obtain ⟨A2, c2, rfl⟩ := fin _ _ _ hs
        exact ⟨A2, c2, he, hW.trans (hb.mono hW.size), hs, s, bad, hr, fun _ => ⟨rfl, rfl⟩, fun e => (by cases e)⟩
  have hlen2 : (twoT l).2.1.length + (if (twoT l).2.2.2 = true then (twoT l).2.2.1.length else 0) ≤ l.length := by
    unfold twoT
    cases ht : tk l with
    | none => simp
    | some p =>
      obtain ⟨n, r0⟩ := p
      have hrl0 : r0.length ≤ l.length := by have := congrArg List.length (tk_back ht); rw [List.length_append] at this; omega
      simp only
      cases hc0 : cntT r0 with
      | none => simp
      | some q =>
        obtain ⟨x, s⟩ := q
        have := congrArg List.length (cnt_back hc0)
        simp only [List.length_append] at this
        simp only [if_true]
        omega
  have hx0 : (twoT l).2.2.2 = false → (twoT l).2.1 = [] := by
    unfold twoT
    cases tk l with
    | none => intro _; rfl
    | some p =>
      obtain ⟨n, r0⟩ := p
      simp only
      cases cntT r0 with
      | none => intro _; rfl
      | some q => intro e; cases e
  unfold KyEnd
  rw [key_two]
  obtain ⟨⟨n, x, s, g⟩, hT⟩ : ∃ T, twoT l = T := ⟨_, rfl⟩
  rw [hT] at HN HC hlen2 hx0 ⊢
  simp only at HN HC hlen2 hx0 ⊢
  by_cases hn : n ≤ a.length
  · have H : KyH rb n a.length x.length (n + x.length) c A (Lib.compareBytes a (a.take n ++ x)) (preL a (a.take n ++ x)) w (fun W => But w.heap.size rb w W ∧ match tk l with | some (_, r) => Rs W rb r bad | none => Rs W rb l true) (fun A2 c2 W => But w.heap.size rb w W ∧ Sx W rb (.slice A2 x.length c2) x ∧ ∃ r b, Rs W rb r b ∧ (g = true → r = s ∧ b = bad) ∧ (g = false → b = true ∧ r.length ≤ l.length)) (fun A3 c3 W => But w.heap.size rb w W ∧ Sx W rb (.slice A3 (n + x.length) c3) (a.take n ++ x) ∧ (x = [] ∨ FrV w.heap.size (.slice A3 (n + x.length) c3)) ∧ ∃ r b, Rs W rb r b ∧ (g = true → r = s ∧ b = bad) ∧ (g = false → b = true ∧ r.length ≤ l.length)) := by
      have hkl : (a.take n ++ x).length = n + x.length := by rw [List.length_append, List.length_take]; omega
      refine ⟨HN, HC, ?_, ?_, ?_, ?_, ?_⟩
      · rintro A2 c2 W ⟨hb, hs, r, b, hr, hg⟩
        obtain ⟨v', W', hrun, hbw, hcase⟩ := run_append_cut W 30 A n (a.take n) (by rw [List.length_take]; omega) (fun h0 => by
          have hl0 : 0 < a.length := by rw [List.length_take] at h0; omega
          obtain ⟨b', o', e, hh⟩ := hHA W hb hl0
          refine ⟨b', o', e, fun i hi => ?_⟩
          rw [List.length_take] at hi
          rw [hh i (by omega)]
          simp only [List.getD_eq_getElem?_getD, List.getElem?_take_of_lt (show i < n by omega)]) (fun e => by have := hnil e; omega) A2 x.length c2 x rfl hs.holds.2.2.2.2 (by omega)
        have hrb : rb < W.heap.size := hr.lt
        rcases hcase with ⟨rfl, rfl, rfl⟩ | ⟨hne, hrow⟩
        · refine ⟨A, n, W', by simpa using hrun, hb, ?_, .inl rfl, r, b, hr, hg⟩
          rw [List.append_nil]
          obtain ⟨A', c', e, g2, g3, g4, g5⟩ := ha'.but hb
          injection e with e1 e2 e3
          subst e1 e3
          refine ⟨A, n, by rw [List.length_take]; simp; omega, by rw [List.length_take]; omega, by omega, fun e => (by have := hnil e; omega), fun h0 => ?_⟩
          obtain ⟨b', o', e, k1, k2, k3⟩ := g5 h0
          refine ⟨b', o', e, k1, k2, fun i hi => ?_⟩
          rw [List.length_take] at hi
          rw [k3 i (by omega)]
          simp only [List.getD_eq_getElem?_getD, List.getElem?_take_of_lt (show i < n by omega)]
        · have hsx := hrow.sx hrb
          have hfr : FrV w.heap.size v' := fun a' m' c' e => by
            subst e
            have := (World.ownsRow.lt hrow a'.block rfl).1
            have := hb.size
            omega
          obtain ⟨A3, c3, rfl, _⟩ := hsx.form
          rw [hkl] at hrun hsx hfr
          exact ⟨A3, c3, W', hrun, hb.trans ((But.of_below hbw rb).mono hb.size), hsx, .inr hfr, r, b, hr.below hbw, hg⟩
      · rintro A3 c3 W ⟨hb, hs, hf, r, b, hr, hg⟩
        have := alike_any A A3 c c3 a (a.take n ++ x) (by omega) W (hHA W hb) hs.holds.2.2.2.2
        rw [hkl] at this
        exact this.mono fun e w' ⟨he, hbw⟩ => ⟨he, hb.trans ((But.of_below hbw rb).mono hb.size), hs.below hbw, hf, r, b, hr.below hbw, hg⟩
      · rintro A3 c3 W ⟨hb, hs, hf, r, b, hr, hg⟩
        have := bcompare_any A A3 c c3 a (a.take n ++ x) W (hHA W hb) hs.holds.2.2.2.2
        rw [hkl] at this
        exact this.mono fun e w' ⟨he, hw⟩ => ⟨he, by rw [hw]; exact ⟨hb, hs, hf, r, b, hr, hg⟩⟩
      · rintro A3 c3 W ⟨hb, hs, hf, r, b, hr, hg⟩
        have hbw : Below W.heap.size W W.drew := (Below.refl _ _).drew
        exact ⟨hb.trans ((But.of_below hbw rb).mono hb.size), hs.below hbw, hf, r, b, hr.below hbw, hg⟩
      · rintro A3 c3 W ⟨hb, hs, hf, r, b, hr, hg⟩
        exact hr.b1
    have hfin : ∀ (A3 : Option Addr) (c3 : Nat) (e : Ending) (w' : World), e = .returned (.slice A3 (n + x.length) c3) → (∃ W, (But w.heap.size rb w W ∧ Sx W rb (.slice A3 (n + x.length) c3) (a.take n ++ x) ∧ (x = [] ∨ FrV w.heap.size (.slice A3 (n + x.length) c3)) ∧ ∃ r b, Rs W rb r b ∧ (g = true → r = s ∧ b = bad) ∧ (g = false → b = true ∧ r.length ≤ l.length)) ∧ w' = W.setCell ⟨rb, 1, none⟩ (.bool true)) → But w.heap.size rb w w' ∧ ∃ v k r, e = .returned v ∧ Sx w' rb v k ∧ Rs w' rb r true ∧ k.length + r.length ≤ a.length + l.length := by
      rintro A3 c3 e w' he ⟨W, ⟨hb, hs, _, r, b, hr, hg1, hg2⟩, rfl⟩
      obtain ⟨h1, h2⟩ := hr.spoil
      refine ⟨hb.trans (h2.mono hb.size), _, _, r, he, hs.but h2, h1, ?_⟩
      rw [List.length_append, List.length_take]
      cases g with
      | true => rw [(hg1 rfl).1]; simp only [if_true] at hlen2; omega
      | false =>
        have h3 := (hg2 rfl).2
        have h4 := hx0 rfl
        subst h4
        simp only [List.length_nil]
        omega
    by_cases hp : preL a (a.take n ++ x) = n
    · by_cases ho : Lib.compareBytes a (a.take n ++ x) < 0
      · refine (bkey_good hn hc1 hc2 hnil hp ho H).mono fun e w' ⟨A3, c3, he, hb, hs, hf, r, b, hr, hg1, hg2⟩ => ⟨hb, ?_⟩
        cases g with
        | true =>
          rw [if_pos ⟨rfl, hn, hp, ho⟩]
          obtain ⟨rfl, rfl⟩ := hg1 rfl
          refine ⟨_, he, hs, hr, ?_⟩
          rcases hf with hf | hf
          · exfalso
            rw [hf, List.append_nil] at ho
            exact cmp_take _ _ ho
          · exact hf
        | false =>
          rw [if_neg (fun h => by cases h.1)]
          obtain ⟨rfl, h3⟩ := hg2 rfl
          refine ⟨_, _, r, he, hs, hr, ?_⟩
          have h4 := hx0 rfl
          subst h4
          rw [List.append_nil, List.length_take]
          omega
      · refine (bkey_less hn hc1 hc2 hnil hp (by omega) H).mono fun e w' ⟨A3, c3, he, hW⟩ => ?_
        rw [if_neg (fun h => ho h.2.2.2)]
        exact hfin A3 c3 e w' he hW
    · refine (bkey_other hn hc1 hc2 hnil hp H).mono fun e w' ⟨A3, c3, he, hW⟩ => ?_
      rw [if_neg (fun h => hp h.2.2.1)]
      exact hfin A3 c3 e w' he hW
  · refine (bkey_great (by omega) HN HC (fun A2 c2 W ⟨_, _, r, b, hr, _⟩ => hr.b1)).mono fun e w' ⟨he, A2, c2, W, ⟨hb, hs, r, b, hr, hg1, hg2⟩, hw⟩ => ?_
    subst hw
    rw [if_neg (fun h => hn h.2.1)]
    obtain ⟨h1, h2⟩ := hr.spoil
    refine ⟨hb.trans (h2.mono hb.size), _, [], r, he, sx_nil _ _, h1, ?_⟩
    cases g with
    | true => rw [(hg1 rfl).1]; simp only [if_true] at hlen2; simp only [List.length_nil]; omega
    | false =>
      have h3 := (hg2 rfl).2
      simp only [List.length_nil]
      omega
end Go.Proofs.YtjbjdkginemedaaGreatDoor
