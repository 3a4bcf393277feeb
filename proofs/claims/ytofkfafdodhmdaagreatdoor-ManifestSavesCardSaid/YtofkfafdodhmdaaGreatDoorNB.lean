/- Several texts in one: SLd SOa MfB MfC. Conditions: as each theorem names them. -/
import Derived.Test.YtofkfafdodhmdaaGreatDoorFK
import Derived.WalkKit
import Derived.WalkSpells
import Derived.WalkLawsBesides
import Derived.WalkSmall
import Derived.Deep.RegionHeld3
import Derived.RegionTactic
import Derived.Deep.QuietTactic
import Derived.BigQuiet
import Derived.Deep.DeepCutAuto
import Derived.Test.YtofkfafdodhmdaaGreatDoorNA
/- A slice that holds bytes, as a value. Conditions: none. -/
namespace Go.Proofs.YtofkfafdodhmdaaGreatDoor
open Go.RowKit

theorem HoldsA.below {w w' : World} {A : Option Addr} {l : List UInt8} (h : HoldsA w A l) (hb : Below w.heap.size w w') : HoldsA w' A l := fun h0 => by
  obtain ⟨b, off, e, hh⟩ := h h0
  exact ⟨b, off, e, hh.below hb (hh.lt h0)⟩
/-- The value is a slice that holds l (nil, or whatever address, where there is nothing). -/
def SlA (w : World) (v : Value) (l : List UInt8) : Prop := ∃ A c, v = .slice A l.length c ∧ l.length ≤ c ∧ c ≤ 9223372036854775807 ∧ (HoldsA w A l ∧ (A = none → c = 0))
theorem SlA.below {w w' : World} {v : Value} {l : List UInt8} (h : SlA w v l) (hb : Below w.heap.size w w') : SlA w' v l := by
  obtain ⟨A, c, h1, h2, h3, h4⟩ := h
  exact ⟨A, c, h1, h2, h3, h4.1.below hb, h4.2⟩
theorem Row.sla {w : World} {B : Nat} {v : Value} {l : List UInt8} (h : Row w B v l) : SlA w v l := by
  by_cases h0 : 0 < l.length
  · obtain ⟨h1, h2⟩ := id h
    obtain ⟨g, cap, e, _, _, h6, h7⟩ := h.form h0
    refine ⟨_, cap, e, h6, ?_, fun _ => ⟨g, 0, rfl, fun i hi => by rw [Nat.zero_add]; exact h7 i hi⟩, fun h => by cases h⟩
    rcases h2 with ⟨_, hz⟩ | ⟨g', cap', cur, e', _, _, _, hm, _⟩
    · omega
    · rw [e] at e'; injection e' with _ _ e3; rw [e3]; unfold maxLen at hm; omega
  · have hl : l = [] := List.eq_nil_of_length_eq_zero (by omega)
    subst hl
    obtain ⟨h1, h2⟩ := h
    rcases h2 with ⟨e, _⟩ | ⟨g', cap', cur, e', _, _, _, hm, _⟩
    · exact ⟨_, 0, e, by simp, by omega, fun h => absurd h (by simp), fun _ => rfl⟩
    · exact ⟨_, cap', e', by simp, by unfold maxLen at hm; omega, fun h => absurd h (by simp), fun h => by cases h⟩
theorem wp_ltc {P : Program} {c : Code} {Q : Exit → Act → World → Prop} {a : Act} {w : World} (F : World → Prop) (h0 : F w) (h : ∀ W, F W → c.wp P Q a W) : c.wp P Q a w := h w h0
end Go.Proofs.YtofkfafdodhmdaaGreatDoor

/- SameBytes at any two slices: are their bytes the same. Conditions: the slices hold their bytes. -/
namespace Go.Proofs.YtofkfafdodhmdaaGreatDoor
open Go.RowKit

set_option maxHeartbeats 1000000 in
theorem same_ne (A1 A2 : Option Addr) (n1 n2 c1 c2 : Nat) (hn : n1 ≠ n2) (w : World) :
    Calls Tryz.prog 17 #[.slice A1 n1 c1, .slice A2 n2 c2] w fun e w' => e = .returned (.bool false) ∧ w' = w := by
  have h : ¬ ((n1 : Int) = (n2 : Int)) := by omega
  go_enter Tryz.func17, Tryz.ntmps17
  go_wp2
  go_ret
  exact ⟨rfl, rfl⟩

set_option maxHeartbeats 1000000 in
theorem same_zero (A1 A2 : Option Addr) (c1 c2 : Nat) (w : World) :
    Calls Tryz.prog 17 #[.slice A1 0 c1, .slice A2 0 c2] w fun e w' => e = .returned (.bool true) ∧ w' = w := by
  go_enter Tryz.func17, Tryz.ntmps17
  go_wp2
  go_loopw [5] (fun vi wr => vi = .int .i64 0 ∧ w = wr) (fun _ _ => 0)
  case atStart => exact ⟨rfl, rfl⟩
  case round =>
    obtain ⟨rfl, rfl⟩ := hrel
    go_wp2
    go_ret
    exact ⟨rfl, rfl⟩

theorem take_next (l : List UInt8) (k : Nat) (h : k < l.length) : l.take (k + 1) = l.take k ++ [l[k]] := List.take_succ_eq_append_getElem h

set_option maxHeartbeats 2000000 in
theorem same_in (b1 o1 c1 b2 o2 c2 n : Nat) (l1 l2 : List UInt8) (h1 : l1.length = n) (h2 : l2.length = n) (hn : n ≤ 1000000) (w : World) (hh1 : Holds w b1 o1 l1) (hh2 : Holds w b2 o2 l2) :
    Calls Tryz.prog 17 #[.slice (some ⟨b1, o1, none⟩) n c1, .slice (some ⟨b2, o2, none⟩) n c2] w fun e w' => e = .returned (.bool (decide (l1 = l2))) ∧ Below w.heap.size w w' := by
  have H1 := hid h1
  have H2 := hid h2
  have K1 := hid hh1
  have K2 := hid hh2
  clear h1 h2 hh1 hh2
  go_enter Tryz.func17, Tryz.ntmps17
  go_wp2
  go_loopw [5] (fun vi wr => ∃ k m : Nat, k ≤ n ∧ vi = .int .i64 k ∧ Hid (l1.take k = l2.take k) ∧ wr = w.drewN m) (fun vi _ => n - (intOf vi).toNat)
  case atStart => exact ⟨0, 0, by omega, rfl, rfl, rfl⟩
  case round =>
    obtain ⟨k, m, hk, rfl, HE, rfl⟩ := hrel
    by_cases hlt : k < n
    · have g1 : k < l1.length := by rw [H1.out]; exact hlt
      have g2 : k < l2.length := by rw [H2.out]; exact hlt
      have q1 := K1.out k g1
      have q2 := K2.out k g2
      rw [List.getD_eq_getElem?_getD, List.getElem?_eq_getElem g1, Option.getD_some] at q1
      rw [List.getD_eq_getElem?_getD, List.getElem?_eq_getElem g2, Option.getD_some] at q2
      obtain ⟨x, hx⟩ : ∃ x : Int, (((l1[k]).toNat : Nat) : Int) = x := ⟨_, rfl⟩
      obtain ⟨y, hy⟩ : ∃ y : Int, (((l2[k]).toNat : Nat) : Int) = y := ⟨_, rfl⟩
      rw [hx] at q1; rw [hy] at q2
      have HX := hid hx; have HY := hid hy
      clear hx hy
      by_cases hxy : x = y
      · subst hxy
        have hb : (x != x) = false := by simp
        go_wp2
        go_region
        all_goals
          go_wp2
          go_roundw
          case rel =>
            refine ⟨k + 1, _, by omega, by go_num, ?_, rfl⟩
            unfold Hid
            rw [take_next l1 k g1, take_next l2 k g2, HE.out]
            have : l1[k] = l2[k] := UInt8.toNat_inj.1 (by have := HX.out; have := HY.out; omega)
            rw [this]
          case measure => simp [intOf]; omega
      · have hb : (x != y) = true := by simpa using hxy
        have HN := hid hxy
        go_wp2
        go_region
        all_goals
          go_wp2
          go_ret
          have hne : l1 ≠ l2 := by
            intro e
            subst e
            exact HN.out (HX.out.symm.trans HY.out)
          rw [decide_eq_false hne]
          exact ⟨rfl, by repeat' (first | exact Below.refl _ _ | apply Below.drew | apply below_drewN)⟩
    · go_wp2
      go_ret
      have e : l1 = l2 := by
        have := HE.out
        rwa [List.take_of_length_le (by have := H1.out; omega), List.take_of_length_le (by have := H2.out; omega)] at this
      rw [decide_eq_true e]
      exact ⟨rfl, by repeat' (first | exact Below.refl _ _ | apply Below.drew | apply below_drewN)⟩

theorem same_sla (v1 v2 : Value) (l1 l2 : List UInt8) (hl1 : l1.length ≤ 1000000) (w : World) (h1 : SlA w v1 l1) (h2 : SlA w v2 l2) :
    Calls Tryz.prog 17 #[v1, v2] w fun e w' => e = .returned (.bool (decide (l1 = l2))) ∧ Below w.heap.size w w' := by
  obtain ⟨A1, c1, rfl, _, _, g1, _⟩ := h1
  obtain ⟨A2, c2, rfl, _, _, g2, _⟩ := h2
  by_cases hn : l1.length = l2.length
  · by_cases h0 : 0 < l1.length
    · obtain ⟨b1, o1, rfl, k1⟩ := g1 h0
      obtain ⟨b2, o2, rfl, k2⟩ := g2 (by omega)
      rw [← hn]
      exact same_in b1 o1 c1 b2 o2 c2 l1.length l1 l2 rfl hn.symm hl1 w k1 k2
    · have e1 : l1 = [] := List.eq_nil_of_length_eq_zero (by omega)
      have e2 : l2 = [] := List.eq_nil_of_length_eq_zero (by omega)
      subst e1; subst e2
      exact (same_zero A1 A2 c1 c2 w).mono fun e w' ⟨he, hw⟩ => ⟨he, by rw [hw]; exact Below.refl _ _⟩
  · have hne : l1 ≠ l2 := fun e => hn (by rw [e])
    rw [decide_eq_false hne]
    exact (same_ne A1 A2 _ _ c1 c2 hn w).mono fun e w' ⟨he, hw⟩ => ⟨he, by rw [hw]; exact Below.refl _ _⟩
end Go.Proofs.YtofkfafdodhmdaaGreatDoor

/- Rows of ints in memory; slices.Index, Contains, Equal at ints, joistref00.SameInts. Conditions: the slices hold their ints, a million at most. -/
namespace Go.Proofs.YtofkfafdodhmdaaGreatDoor
open Go.RowKit

def HoldsI (w : World) (b off : Nat) (zs : List Int) : Prop := ∀ i, i < zs.length → w.cell? ⟨b, off + i, none⟩ = some (.int .i64 (zs.getD i 0))
theorem HoldsI.below {w w' : World} {b off B : Nat} {zs : List Int} (h : HoldsI w b off zs) (hb : Below B w w') (hB : b < B) : HoldsI w' b off zs :=
  fun i hi => by rw [hb.cell (p := ⟨b, off + i, none⟩) hB]; exact h i hi
theorem HoldsI.lt {w : World} {b off : Nat} {zs : List Int} (h : HoldsI w b off zs) (hl : 0 < zs.length) : b < w.heap.size := cell_lt (h 0 hl)
theorem HoldsI.drop {w : World} {b off : Nat} {zs : List Int} (h : HoldsI w b off zs) (k : Nat) : HoldsI w b (off + k) (zs.drop k) := by
  intro i hi
  rw [List.length_drop] at hi
  have := h (k + i) (by omega)
  rw [Nat.add_assoc, this]
  congr 2
  rw [List.getD_eq_getElem?_getD, List.getD_eq_getElem?_getD, List.getElem?_drop]
theorem HoldsI.take {w : World} {b off : Nat} {zs : List Int} (h : HoldsI w b off zs) (k : Nat) : HoldsI w b off (zs.take k) := by
  intro i hi
  rw [List.length_take] at hi
  rw [h i (by omega)]
  congr 2
  rw [List.getD_eq_getElem?_getD, List.getD_eq_getElem?_getD, List.getElem?_take_of_lt (by omega)]
def HoldsIA (w : World) (A : Option Addr) (zs : List Int) : Prop := 0 < zs.length → ∃ b off, A = some ⟨b, off, none⟩ ∧ HoldsI w b off zs
theorem HoldsIA.below {w w' : World} {A : Option Addr} {l : List Int} (h : HoldsIA w A l) (hb : Below w.heap.size w w') : HoldsIA w' A l := fun h0 => by
  obtain ⟨b, off, e, hh⟩ := h h0
  exact ⟨b, off, e, hh.below hb (hh.lt h0)⟩
/-- The value is a slice that holds the ints zs (nil, or whatever address, where there is nothing). -/
def SlI (w : World) (v : Value) (zs : List Int) : Prop := ∃ A c, v = .slice A zs.length c ∧ zs.length ≤ c ∧ c ≤ 9223372036854775807 ∧ (HoldsIA w A zs ∧ (A = none → c = 0))
theorem SlI.below {w w' : World} {v : Value} {zs : List Int} (h : SlI w v zs) (hb : Below w.heap.size w w') : SlI w' v zs := by
  obtain ⟨A, c, h1, h2, h3, h4⟩ := h
  exact ⟨A, c, h1, h2, h3, h4.1.below hb, h4.2⟩
theorem slI_nil (w : World) : SlI w (.slice none 0 0) [] := ⟨none, 0, rfl, by simp, by omega, fun h => absurd h (by simp), fun _ => rfl⟩

theorem info_int : (Tryz.prog.info? 3).map (fun i => (i.zero, i.size, i.bytes)) = some (some (.int .i64 0), 1, 8) := by kernel_rfl
/-- The slice v is the call's own and holds the ints zs. -/
def IRow (w : World) (B : Nat) (v : Value) (zs : List Int) : Prop := w.ownsRow B 3 1 v zs.length (zs.map (Value.int .i64))
theorem IRow.none (w : World) (B : Nat) : IRow w B (.slice none 0 0) [] := ⟨rfl, .inl ⟨rfl, rfl⟩⟩
theorem IRow.below {w w' : World} {B : Nat} {v : Value} {zs : List Int} (h : IRow w B v zs) (hb : Below w.heap.size w w') : IRow w' B v zs := by
  refine ⟨h.1, ?_⟩
  rcases h.2 with h2 | ⟨g, cap, cur, rfl, hB, hh, hrest⟩
  · exact .inl h2
  · refine .inr ⟨g, cap, cur, rfl, hB, ?_, hrest⟩
    rw [hb.block g (by rcases Nat.lt_or_ge g w.heap.size with h' | h'
                       · exact h'
                       · rw [Array.getElem?_eq_none h'] at hh; cases hh)]
    exact hh
theorem IRow.mono {w : World} {B B' : Nat} {v : Value} {zs : List Int} (h : IRow w B v zs) (hB : B' ≤ B) : IRow w B' v zs := by
  refine ⟨h.1, ?_⟩
  rcases h.2 with h2 | ⟨g, cap, cur, rfl, hB2, hrest⟩
  · exact .inl h2
  · exact .inr ⟨g, cap, cur, rfl, by omega, hrest⟩
theorem IRow.slI {w : World} {B : Nat} {v : Value} {zs : List Int} (h : IRow w B v zs) : SlI w v zs := by
  rcases h.2 with ⟨e, hz⟩ | ⟨g, cap, cur, e2, _, hh, h3, h4, h5, ht⟩
  · have : zs = [] := List.eq_nil_of_length_eq_zero hz
    subst this
    exact ⟨_, 0, e, by simp, by omega, fun h => absurd h (by simp), fun _ => rfl⟩
  · refine ⟨_, cap, e2, h3, by unfold maxLen at h4; omega, fun h0 => ⟨g, 0, rfl, fun i hi => ?_⟩, fun e => by cases e⟩
    rw [cell_of_row w g (0 + i) cur _ (0, 0) hh, Nat.zero_add]
    have h2 : (cur.toList.take (zs.length * 1))[i]? = (zs.map (Value.int .i64))[i]? := by rw [ht]
    rw [List.getElem?_take_of_lt (by omega), List.getElem?_map, List.getElem?_eq_getElem hi] at h2
    rw [← Array.getElem?_toList, h2, List.getD_eq_getElem?_getD, List.getElem?_eq_getElem hi]
    rfl

set_option maxHeartbeats 1000000 in
theorem index_zero (A : Option Addr) (c : Nat) (z : Int) (w : World) :
    Calls Tryz.prog 106 #[.slice A 0 c, .int .i64 z] w fun e w' => e = .returned (.int .i64 (-1)) ∧ w' = w := by
  go_enter Tryz.func106, Tryz.ntmps106
  go_wp2
  go_loopw [8] (fun vi wr => vi = .int .i64 0 ∧ w = wr) (fun _ _ => 0)
  case atStart => exact ⟨rfl, rfl⟩
  case round =>
    obtain ⟨rfl, rfl⟩ := hrel
    go_wp2
    go_ret
    exact ⟨rfl, rfl⟩

set_option maxHeartbeats 2000000 in
theorem index_in (b o c n : Nat) (zs : List Int) (h1 : zs.length = n) (hn : n ≤ 1000000) (z : Int) (w : World) (hh : HoldsI w b o zs) :
    Calls Tryz.prog 106 #[.slice (some ⟨b, o, none⟩) n c, .int .i64 z] w fun e w' => ∃ r : Int, e = .returned (.int .i64 r) ∧ (0 ≤ r ↔ z ∈ zs) ∧ w' = w := by
  have H1 := hid h1
  have K1 := hid hh
  clear h1 hh
  go_enter Tryz.func106, Tryz.ntmps106
  go_wp2
  go_loopw [8] (fun vi wr => ∃ k : Nat, k ≤ n ∧ vi = .int .i64 k ∧ Hid (¬ z ∈ zs.take k) ∧ wr = w) (fun vi _ => n - (intOf vi).toNat)
  case atStart => exact ⟨0, by omega, rfl, (by unfold Hid; rw [List.take_zero]; exact List.not_mem_nil), rfl⟩
  case round =>
    obtain ⟨k, hk, rfl, HE, rfl⟩ := hrel
    by_cases hlt : k < n
    · have g1 : k < zs.length := by rw [H1.out]; exact hlt
      have q1 := K1.out k g1
      obtain ⟨y, hy⟩ : ∃ y : Int, zs.getD k 0 = y := ⟨_, rfl⟩
      rw [hy] at q1
      have HY := hid hy
      clear hy
      by_cases hxy : z = y
      · subst hxy
        have hb : (z == z) = true := by simp
        go_wp2
        go_ret
        refine ⟨_, rfl, ⟨fun _ => ?_, fun _ => by omega⟩, rfl⟩
        rw [← HY.out, List.getD_eq_getElem?_getD, List.getElem?_eq_getElem g1]
        exact List.getElem_mem g1
      · have hb : (z == y) = false := by simpa using hxy
        have HN := hid hxy
        go_wp2
        go_roundw
        case rel =>
          refine ⟨k + 1, by omega, by go_num, ?_, by trivial⟩
          unfold Hid
          rw [List.take_succ_eq_append_getElem g1, List.mem_append, List.mem_singleton]
          rintro (h | h)
          · exact HE.out h
          · refine HN.out ?_
            rw [h, ← HY.out, List.getD_eq_getElem?_getD, List.getElem?_eq_getElem g1]
            rfl
        case measure => simp [intOf]; omega
    · go_wp2
      go_ret
      refine ⟨_, rfl, ⟨fun h => by omega, fun h => absurd h ?_⟩, rfl⟩
      have := HE.out
      rwa [List.take_of_length_le (by have := H1.out; omega)] at this

theorem index_any (v : Value) (zs : List Int) (hl : zs.length ≤ 1000000) (z : Int) (w : World) (h : SlI w v zs) :
    Calls Tryz.prog 106 #[v, .int .i64 z] w fun e w' => ∃ r : Int, e = .returned (.int .i64 r) ∧ (0 ≤ r ↔ z ∈ zs) ∧ w' = w := by
  obtain ⟨A, c, rfl, _, _, h3, _⟩ := h
  by_cases h0 : 0 < zs.length
  · obtain ⟨b, o, rfl, hh⟩ := h3 h0
    exact index_in b o c zs.length zs rfl hl z w hh
  · have : zs = [] := List.eq_nil_of_length_eq_zero (by omega)
    subst this
    exact (index_zero A c z w).mono fun e w' ⟨he, hw⟩ => ⟨-1, he, ⟨fun h => by omega, fun h => by cases h⟩, hw⟩

set_option maxHeartbeats 1000000 in
theorem contains_any (v : Value) (zs : List Int) (hl : zs.length ≤ 1000000) (z : Int) (w : World) (h : SlI w v zs) :
    Calls Tryz.prog 80 #[v, .int .i64 z] w fun e w' => e = .returned (.bool (decide (z ∈ zs))) ∧ w' = w := by
  have HI : Hid (Calls Tryz.prog 106 #[v, .int .i64 z] w fun e w' => ∃ r : Int, e = .returned (.int .i64 r) ∧ (0 ≤ r ↔ z ∈ zs) ∧ w' = w) := index_any v zs hl z w h
  obtain ⟨A, c, rfl, _⟩ := h
  clear hl
  generalize zs.length = n at HI ⊢
  go_enter Tryz.func80, Tryz.ntmps80
  go_wp2_with (go_at_call 106; refine HI.out.mono ?_; rintro e w1 ⟨r, rfl, hr, rfl⟩)
  go_ret
  refine ⟨?_, rfl⟩
  have : decide (0 ≤ r) = decide (z ∈ zs) := by rw [Bool.eq_iff_iff, decide_eq_true_iff, decide_eq_true_iff]; exact hr
  rw [← this]
  rfl

set_option maxHeartbeats 1000000 in
theorem equalI_ne (A1 A2 : Option Addr) (n1 n2 c1 c2 : Nat) (hn : n1 ≠ n2) (w : World) :
    Calls Tryz.prog 81 #[.slice A1 n1 c1, .slice A2 n2 c2] w fun e w' => e = .returned (.bool false) ∧ w' = w := by
  have h : ¬ ((n1 : Int) = (n2 : Int)) := by omega
  go_enter Tryz.func81, Tryz.ntmps81
  go_wp2
  go_ret
  exact ⟨rfl, rfl⟩

set_option maxHeartbeats 1000000 in
theorem equalI_zero (A1 A2 : Option Addr) (c1 c2 : Nat) (w : World) :
    Calls Tryz.prog 81 #[.slice A1 0 c1, .slice A2 0 c2] w fun e w' => e = .returned (.bool true) ∧ w' = w := by
  go_enter Tryz.func81, Tryz.ntmps81
  go_wp2
  go_loopw [13] (fun vi wr => vi = .int .i64 0 ∧ w = wr) (fun _ _ => 0)
  case atStart => exact ⟨rfl, rfl⟩
  case round =>
    obtain ⟨rfl, rfl⟩ := hrel
    go_wp2
    go_ret
    exact ⟨rfl, rfl⟩

set_option maxHeartbeats 2000000 in
theorem equalI_in (b1 o1 c1 b2 o2 c2 n : Nat) (l1 l2 : List Int) (h1 : l1.length = n) (h2 : l2.length = n) (hn : n ≤ 1000000) (w : World) (hh1 : HoldsI w b1 o1 l1) (hh2 : HoldsI w b2 o2 l2) :
    Calls Tryz.prog 81 #[.slice (some ⟨b1, o1, none⟩) n c1, .slice (some ⟨b2, o2, none⟩) n c2] w fun e w' => e = .returned (.bool (decide (l1 = l2))) ∧ Below w.heap.size w w' := by
  have H1 := hid h1
  have H2 := hid h2
  have K1 := hid hh1
  have K2 := hid hh2
  clear h1 h2 hh1 hh2
  go_enter Tryz.func81, Tryz.ntmps81
  go_wp2
  go_loopw [13] (fun vi wr => ∃ k m : Nat, k ≤ n ∧ vi = .int .i64 k ∧ Hid (l1.take k = l2.take k) ∧ wr = w.drewN m) (fun vi _ => n - (intOf vi).toNat)
  case atStart => exact ⟨0, 0, by omega, rfl, rfl, rfl⟩
  case round =>
    obtain ⟨k, m, hk, rfl, HE, rfl⟩ := hrel
    by_cases hlt : k < n
    · have g1 : k < l1.length := by rw [H1.out]; exact hlt
      have g2 : k < l2.length := by rw [H2.out]; exact hlt
      have q1 := K1.out k g1
      have q2 := K2.out k g2
      rw [List.getD_eq_getElem?_getD, List.getElem?_eq_getElem g1, Option.getD_some] at q1
      rw [List.getD_eq_getElem?_getD, List.getElem?_eq_getElem g2, Option.getD_some] at q2
      obtain ⟨x, hx⟩ : ∃ x : Int, l1[k] = x := ⟨_, rfl⟩
      obtain ⟨y, hy⟩ : ∃ y : Int, l2[k] = y := ⟨_, rfl⟩
      rw [hx] at q1; rw [hy] at q2
      have HX := hid hx; have HY := hid hy
      clear hx hy
      by_cases hxy : x = y
      · subst hxy
        have hb : (x != x) = false := by simp
        go_wp2
        go_region
        all_goals
          go_wp2
          go_roundw
          case rel =>
            refine ⟨k + 1, _, by omega, by go_num, ?_, rfl⟩
            unfold Hid
            rw [List.take_succ_eq_append_getElem g1, List.take_succ_eq_append_getElem g2, HE.out, HX.out, HY.out]
          case measure => simp [intOf]; omega
      · have hb : (x != y) = true := by simpa using hxy
        have HN := hid hxy
        go_wp2
        go_region
        all_goals
          go_wp2
          go_ret
          have hne : l1 ≠ l2 := by
            intro e
            subst e
            exact HN.out (HX.out.symm.trans HY.out)
          rw [decide_eq_false hne]
          exact ⟨rfl, by repeat' (first | exact Below.refl _ _ | apply Below.drew | apply Go.below_drewN)⟩
    · go_wp2
      go_ret
      have e : l1 = l2 := by
        have := HE.out
        rwa [List.take_of_length_le (by have := H1.out; omega), List.take_of_length_le (by have := H2.out; omega)] at this
      rw [decide_eq_true e]
      exact ⟨rfl, by repeat' (first | exact Below.refl _ _ | apply Below.drew | apply Go.below_drewN)⟩

theorem equalI_any (v1 v2 : Value) (l1 l2 : List Int) (hl1 : l1.length ≤ 1000000) (w : World) (h1 : SlI w v1 l1) (h2 : SlI w v2 l2) :
    Calls Tryz.prog 81 #[v1, v2] w fun e w' => e = .returned (.bool (decide (l1 = l2))) ∧ Below w.heap.size w w' := by
  obtain ⟨A1, c1, rfl, _, _, g1, _⟩ := h1
  obtain ⟨A2, c2, rfl, _, _, g2, _⟩ := h2
  by_cases hn : l1.length = l2.length
  · by_cases h0 : 0 < l1.length
    · obtain ⟨b1, o1, rfl, k1⟩ := g1 h0
      obtain ⟨b2, o2, rfl, k2⟩ := g2 (by omega)
      rw [← hn]
      exact equalI_in b1 o1 c1 b2 o2 c2 l1.length l1 l2 rfl hn.symm hl1 w k1 k2
    · have e1 : l1 = [] := List.eq_nil_of_length_eq_zero (by omega)
      have e2 : l2 = [] := List.eq_nil_of_length_eq_zero (by omega)
      subst e1; subst e2
      exact (equalI_zero A1 A2 c1 c2 w).mono fun e w' ⟨he, hw⟩ => ⟨he, by rw [hw]; exact Below.refl _ _⟩
  · have hne : l1 ≠ l2 := fun e => hn (by rw [e])
    rw [decide_eq_false hne]
    exact (equalI_ne A1 A2 _ _ c1 c2 hn w).mono fun e w' ⟨he, hw⟩ => ⟨he, by rw [hw]; exact Below.refl _ _⟩

set_option maxHeartbeats 1000000 in
theorem sameI_ne (A1 A2 : Option Addr) (n1 n2 c1 c2 : Nat) (hn : n1 ≠ n2) (w : World) :
    Calls Tryz.prog 82 #[.slice A1 n1 c1, .slice A2 n2 c2] w fun e w' => e = .returned (.bool false) ∧ w' = w := by
  have h : ¬ ((n1 : Int) = (n2 : Int)) := by omega
  go_enter Tryz.func82, Tryz.ntmps82
  go_wp2
  go_ret
  exact ⟨rfl, rfl⟩

set_option maxHeartbeats 1000000 in
theorem sameI_zero (A1 A2 : Option Addr) (c1 c2 : Nat) (w : World) :
    Calls Tryz.prog 82 #[.slice A1 0 c1, .slice A2 0 c2] w fun e w' => e = .returned (.bool true) ∧ w' = w := by
  go_enter Tryz.func82, Tryz.ntmps82
  go_wp2
  go_loopw [5] (fun vi wr => vi = .int .i64 0 ∧ w = wr) (fun _ _ => 0)
  case atStart => exact ⟨rfl, rfl⟩
  case round =>
    obtain ⟨rfl, rfl⟩ := hrel
    go_wp2
    go_ret
    exact ⟨rfl, rfl⟩

set_option maxHeartbeats 2000000 in
theorem sameI_in (b1 o1 c1 b2 o2 c2 n : Nat) (l1 l2 : List Int) (h1 : l1.length = n) (h2 : l2.length = n) (hn : n ≤ 1000000) (w : World) (hh1 : HoldsI w b1 o1 l1) (hh2 : HoldsI w b2 o2 l2) :
    Calls Tryz.prog 82 #[.slice (some ⟨b1, o1, none⟩) n c1, .slice (some ⟨b2, o2, none⟩) n c2] w fun e w' => e = .returned (.bool (decide (l1 = l2))) ∧ Below w.heap.size w w' := by
  have H1 := hid h1
  have H2 := hid h2
  have K1 := hid hh1
  have K2 := hid hh2
  clear h1 h2 hh1 hh2
  go_enter Tryz.func82, Tryz.ntmps82
  go_wp2
  go_loopw [5] (fun vi wr => ∃ k m : Nat, k ≤ n ∧ vi = .int .i64 k ∧ Hid (l1.take k = l2.take k) ∧ wr = w.drewN m) (fun vi _ => n - (intOf vi).toNat)
  case atStart => exact ⟨0, 0, by omega, rfl, rfl, rfl⟩
  case round =>
    obtain ⟨k, m, hk, rfl, HE, rfl⟩ := hrel
    by_cases hlt : k < n
    · have g1 : k < l1.length := by rw [H1.out]; exact hlt
      have g2 : k < l2.length := by rw [H2.out]; exact hlt
      have q1 := K1.out k g1
      have q2 := K2.out k g2
      rw [List.getD_eq_getElem?_getD, List.getElem?_eq_getElem g1, Option.getD_some] at q1
      rw [List.getD_eq_getElem?_getD, List.getElem?_eq_getElem g2, Option.getD_some] at q2
      obtain ⟨x, hx⟩ : ∃ x : Int, l1[k] = x := ⟨_, rfl⟩
      obtain ⟨y, hy⟩ : ∃ y : Int, l2[k] = y := ⟨_, rfl⟩
      rw [hx] at q1; rw [hy] at q2
      have HX := hid hx; have HY := hid hy
      clear hx hy
      by_cases hxy : x = y
      · subst hxy
        have hb : (x != x) = false := by simp
        go_wp2
        go_region
        all_goals
          go_wp2
          go_roundw
          case rel =>
            refine ⟨k + 1, _, by omega, by go_num, ?_, rfl⟩
            unfold Hid
            rw [List.take_succ_eq_append_getElem g1, List.take_succ_eq_append_getElem g2, HE.out, HX.out, HY.out]
          case measure => simp [intOf]; omega
      · have hb : (x != y) = true := by simpa using hxy
        have HN := hid hxy
        go_wp2
        go_region
        all_goals
          go_wp2
          go_ret
          have hne : l1 ≠ l2 := by
            intro e
            subst e
            exact HN.out (HX.out.symm.trans HY.out)
          rw [decide_eq_false hne]
          exact ⟨rfl, by repeat' (first | exact Below.refl _ _ | apply Below.drew | apply Go.below_drewN)⟩
    · go_wp2
      go_ret
      have e : l1 = l2 := by
        have := HE.out
        rwa [List.take_of_length_le (by have := H1.out; omega), List.take_of_length_le (by have := H2.out; omega)] at this
      rw [decide_eq_true e]
      exact ⟨rfl, by repeat' (first | exact Below.refl _ _ | apply Below.drew | apply Go.below_drewN)⟩

theorem sameI_any (v1 v2 : Value) (l1 l2 : List Int) (hl1 : l1.length ≤ 1000000) (w : World) (h1 : SlI w v1 l1) (h2 : SlI w v2 l2) :
    Calls Tryz.prog 82 #[v1, v2] w fun e w' => e = .returned (.bool (decide (l1 = l2))) ∧ Below w.heap.size w w' := by
  obtain ⟨A1, c1, rfl, _, _, g1, _⟩ := h1
  obtain ⟨A2, c2, rfl, _, _, g2, _⟩ := h2
  by_cases hn : l1.length = l2.length
  · by_cases h0 : 0 < l1.length
    · obtain ⟨b1, o1, rfl, k1⟩ := g1 h0
      obtain ⟨b2, o2, rfl, k2⟩ := g2 (by omega)
      rw [← hn]
      exact sameI_in b1 o1 c1 b2 o2 c2 l1.length l1 l2 rfl hn.symm hl1 w k1 k2
    · have e1 : l1 = [] := List.eq_nil_of_length_eq_zero (by omega)
      have e2 : l2 = [] := List.eq_nil_of_length_eq_zero (by omega)
      subst e1; subst e2
      exact (sameI_zero A1 A2 c1 c2 w).mono fun e w' ⟨he, hw⟩ => ⟨he, by rw [hw]; exact Below.refl _ _⟩
  · have hne : l1 ≠ l2 := fun e => hn (by rw [e])
    rw [decide_eq_false hne]
    exact (sameI_ne A1 A2 _ _ c1 c2 hn w).mono fun e w' ⟨he, hw⟩ => ⟨he, by rw [hw]; exact Below.refl _ _⟩
end Go.Proofs.YtofkfafdodhmdaaGreatDoor

/- package manifest's within, tablesBelow, Right. Conditions: the tables' slice holds its ints. -/
namespace Go.Proofs.YtofkfafdodhmdaaGreatDoor
open Go.RowKit

set_option maxHeartbeats 1000000 in
theorem within_any (n a b : Int) (w : World) :
    Calls Tryz.prog 46 #[.int .i64 n, .int .i64 a, .int .i64 b] w fun e w' => e = .returned (.bool (decide (a ≤ n ∧ n ≤ b))) ∧ w' = w := by
  by_cases h1 : a ≤ n
  · by_cases h2 : n ≤ b
    · have hd : decide (a ≤ n ∧ n ≤ b) = true := decide_eq_true ⟨h1, h2⟩
      rw [hd]
      go_enter Tryz.func46, Tryz.ntmps46
      go_wp2
      go_ret
      exact ⟨rfl, rfl⟩
    · have hd : decide (a ≤ n ∧ n ≤ b) = false := decide_eq_false fun h => h2 h.2
      rw [hd]
      go_enter Tryz.func46, Tryz.ntmps46
      go_wp2
      go_ret
      exact ⟨rfl, rfl⟩
  · have hd : decide (a ≤ n ∧ n ≤ b) = false := decide_eq_false fun h => h1 h.1
    rw [hd]
    go_enter Tryz.func46, Tryz.ntmps46
    go_wp2
    go_ret
    exact ⟨rfl, rfl⟩

set_option maxHeartbeats 1000000 in
theorem tabs_much (A : Option Addr) (m c : Nat) (hm : 50 < m) (n : Int) (w : World) :
    Calls Tryz.prog 47 #[.slice A m c, .int .i64 n] w fun e w' => e = .returned (.bool false) ∧ w' = w := by
  go_enter Tryz.func47, Tryz.ntmps47
  go_wp2
  go_ret
  exact ⟨rfl, rfl⟩
set_option maxHeartbeats 1000000 in
theorem tabs_zero (A : Option Addr) (c : Nat) (n : Int) (w : World) :
    Calls Tryz.prog 47 #[.slice A 0 c, .int .i64 n] w fun e w' => e = .returned (.bool true) ∧ w' = w := by
  go_enter Tryz.func47, Tryz.ntmps47
  go_wp2
  go_loopw [12] (fun vi wr => vi = .int .i64 0 ∧ w = wr) (fun _ _ => 0)
  case atStart => exact ⟨rfl, rfl⟩
  case round =>
    obtain ⟨rfl, rfl⟩ := hrel
    go_wp2
    go_ret
    exact ⟨rfl, rfl⟩

theorem slI_take {w : World} {b o c n : Nat} {zs : List Int} (h1 : zs.length = n) (hc : n ≤ c) (hc2 : c ≤ 9223372036854775807) (hh : HoldsI w b o zs) (k : Nat) (hk : k ≤ n) : SlI w (.slice (some ⟨b, o, none⟩) k c) (zs.take k) := by
  have e : (zs.take k).length = k := by rw [List.length_take]; omega
  exact ⟨_, c, by rw [e], by omega, hc2, fun _ => ⟨b, o, rfl, hh.take k⟩, fun h => by cases h⟩

set_option maxHeartbeats 2000000 in
theorem tabs_in (b o c m : Nat) (zs : List Int) (h1 : zs.length = m) (hm : m ≤ 50) (hc : m ≤ c) (hc2 : c ≤ 9223372036854775807) (n : Int) (hn : 1 ≤ n ∧ n ≤ 999999) (w : World) (hh : HoldsI w b o zs) :
    Calls Tryz.prog 47 #[.slice (some ⟨b, o, none⟩) m c, .int .i64 n] w fun e w' => e = .returned (.bool (tabsB n zs)) ∧ w' = w := by
  have H1 := hid h1
  have K1 := hid hh
  have HS : Hid (∀ k, k ≤ m → SlI w (.slice (some ⟨b, o, none⟩) k c) (zs.take k)) := slI_take h1 hc hc2 hh
  obtain ⟨n0, n1⟩ := hn
  clear h1 hh hc2
  go_enter Tryz.func47, Tryz.ntmps47
  go_wp2
  go_loopw [12] (fun vi wr => ∃ k : Nat, k ≤ m ∧ vi = .int .i64 k ∧ Hid (tabsB n (zs.take k) = true) ∧ wr = w) (fun vi _ => m - (intOf vi).toNat)
  case atStart => exact ⟨0, by omega, rfl, (by unfold Hid; rw [List.take_zero]; exact tabs_nil n), rfl⟩
  case round =>
    obtain ⟨k, hk, rfl, HE, rfl⟩ := hrel
    by_cases hlt : k < m
    · have g1 : k < zs.length := by rw [H1.out]; exact hlt
      have q1 := K1.out k g1
      obtain ⟨y, hy⟩ : ∃ y : Int, zs.getD k 0 = y := ⟨_, rfl⟩
      rw [hy] at q1
      have HY : Hid (zs[k] = y) := by unfold Hid; rw [← hy, List.getD_eq_getElem?_getD, List.getElem?_eq_getElem g1]; rfl
      clear hy
      have HT := hid (tabs_take (n := n) g1 (by rw [H1.out]; exact hm))
      by_cases hw : 1 ≤ y ∧ y ≤ n - 1
      · by_cases hx : y ∈ zs.take k
        · have HD : Hid (decide (y ∈ zs.take k) = true) := by exact decide_eq_true hx
          have HF : Hid (tabsB n zs = false) := by
            refine tabs_more (by rw [H1.out]; exact hm) (k + 1) ?_
            rw [HT.out, HE.out, HY.out, HD.out]
            simp
          have HW : Hid (decide (1 ≤ y ∧ y ≤ n - 1) = true) := decide_eq_true hw
          clear hw hx
          go_wp2_with (first
            | (go_at_call 46; refine (within_any _ _ _ _).mono ?_; rintro e w1 ⟨rfl, rfl⟩; rw [HW.out])
            | (go_at_call 80; refine (contains_any _ (zs.take k) (by rw [List.length_take]; omega) _ _ (HS.out k (by omega))).mono ?_; rintro e w1 ⟨rfl, rfl⟩; rw [HD.out]))
          go_ret
          exact ⟨by rw [HF.out]; rfl, rfl⟩
        · have HD : Hid (decide (y ∈ zs.take k) = false) := by exact decide_eq_false hx
          have HF : Hid (tabsB n (zs.take (k + 1)) = true) := by
            unfold Hid
            rw [HT.out, HE.out, HY.out, HD.out, decide_eq_true (show 1 ≤ y ∧ y < n by omega)]
            rfl
          have HW : Hid (decide (1 ≤ y ∧ y ≤ n - 1) = true) := decide_eq_true hw
          clear hw hx
          go_wp2_with (first
            | (go_at_call 46; refine (within_any _ _ _ _).mono ?_; rintro e w1 ⟨rfl, rfl⟩; rw [HW.out])
            | (go_at_call 80; refine (contains_any _ (zs.take k) (by rw [List.length_take]; omega) _ _ (HS.out k (by omega))).mono ?_; rintro e w1 ⟨rfl, rfl⟩; rw [HD.out]))
          go_roundw
          case rel => exact ⟨k + 1, by omega, by go_num, HF, by trivial⟩
          case measure => simp [intOf]; omega
      · have HF : Hid (tabsB n zs = false) := by
          refine tabs_more (by rw [H1.out]; exact hm) (k + 1) ?_
          rw [HT.out, HE.out, HY.out, decide_eq_false (show ¬ (1 ≤ y ∧ y < n) by omega)]
          rfl
        have HW : Hid (decide (1 ≤ y ∧ y ≤ n - 1) = false) := decide_eq_false hw
        clear hw
        go_wp2_with (go_at_call 46; refine (within_any _ _ _ _).mono ?_; rintro e w1 ⟨rfl, rfl⟩; rw [HW.out])
        go_ret
        exact ⟨by rw [HF.out]; rfl, rfl⟩
    · go_wp2
      go_ret
      have e := HE.out
      rw [List.take_of_length_le (by have := H1.out; omega)] at e
      exact ⟨by rw [e]; rfl, rfl⟩

theorem tabs_any (v : Value) (zs : List Int) (n : Int) (hn : 1 ≤ n ∧ n ≤ 999999) (w : World) (h : SlI w v zs) :
    Calls Tryz.prog 47 #[v, .int .i64 n] w fun e w' => e = .returned (.bool (tabsB n zs)) ∧ w' = w := by
  obtain ⟨A, c, rfl, h1, h2, h3, _⟩ := h
  by_cases hl : zs.length ≤ 50
  · by_cases h0 : 0 < zs.length
    · obtain ⟨b, o, rfl, hh⟩ := h3 h0
      exact tabs_in b o c zs.length zs rfl hl h1 h2 n hn w hh
    · have : zs = [] := List.eq_nil_of_length_eq_zero (by omega)
      subst this
      rw [tabs_nil]
      exact tabs_zero A c n w
  · rw [tabs_long (by omega)]
    exact tabs_much A zs.length c (by omega) n w

/-- A state as a value: its numbers, and a slice of its tables. -/
abbrev staV (g a n : Int) (v : Value) : Value := .agg #[.int .i64 g, .int .i64 a, .int .i64 n, v]

set_option maxHeartbeats 2000000 in
theorem right9_any (s : Sta) (v : Value) (w : World) (h : SlI w v s.t) :
    Calls Tryz.prog 15 #[staV s.g s.a s.n v] w fun e w' => e = .returned (.bool s.right) ∧ Below w.heap.size w w' := by
  obtain ⟨g, a, n, t⟩ := s
  have HK := hid h
  dsimp only at h HK ⊢
  have HR : Hid ((⟨g, a, n, t⟩ : Sta).right = (decide (1 ≤ g ∧ g ≤ 1099511627776) && decide (0 ≤ a ∧ a ≤ 1099511627776) && decide (1 ≤ n ∧ n ≤ 999999) && tabsB n t)) := rfl
  clear h
  go_enter Tryz.func15, Tryz.ntmps15
  cases q1 : decide (1 ≤ g ∧ g ≤ 1099511627776) with
  | false =>
    go_wp2_with (go_at_call 46; refine (within_any _ _ _ _).mono ?_; rintro e w1 ⟨rfl, rfl⟩; rw [q1])
    go_ret
    exact ⟨by rw [HR.out, q1]; rfl, below_new _ _⟩
  | true =>
    cases q2 : decide (0 ≤ a ∧ a ≤ 1099511627776) with
    | false =>
      go_wp2_with (go_at_call 46; refine (within_any _ _ _ _).mono ?_; rintro e w1 ⟨rfl, rfl⟩; first | rw [q1] | rw [q2])
      go_ret
      exact ⟨by rw [HR.out, q1, q2]; rfl, below_new _ _⟩
    | true =>
      cases q3 : decide (1 ≤ n ∧ n ≤ 999999) with
      | false =>
        go_wp2_with (go_at_call 46; refine (within_any _ _ _ _).mono ?_; rintro e w1 ⟨rfl, rfl⟩; first | rw [q1] | rw [q2] | rw [q3])
        go_ret
        exact ⟨by rw [HR.out, q1, q2, q3]; rfl, below_new _ _⟩
      | true =>
        go_wp2_with (first
          | (go_at_call 46; refine (within_any _ _ _ _).mono ?_; rintro e w1 ⟨rfl, rfl⟩; first | rw [q1] | rw [q2] | rw [q3])
          | (go_at_call 47; refine (tabs_any v t n (of_decide_eq_true q3) _ (HK.out.below (below_new _ _))).mono ?_; rintro e w1 ⟨rfl, rfl⟩))
        go_ret
        exact ⟨by rw [HR.out, q1, q2, q3]; rfl, below_new _ _⟩
end Go.Proofs.YtofkfafdodhmdaaGreatDoor
