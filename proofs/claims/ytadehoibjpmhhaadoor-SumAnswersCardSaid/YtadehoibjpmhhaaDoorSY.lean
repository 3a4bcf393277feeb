/- SameLists at any two lists of slices: are their rows the same. Conditions: the lists hold their rows, each a million bytes at most. -/
import Derived.Test.YtadehoibjpmhhaaDoorSU
import Derived.Deep.RegionHeld3
namespace Go.Proofs.YtadehoibjpmhhaaDoor
open Go.RowKit

/-- A list whose rows can be reached one by one. -/
def LsB (w : World) (v : Value) (ls : List (List UInt8)) : Prop := ∃ A c, v = .slice A ls.length c ∧ (0 < ls.length → ∃ b off, A = some ⟨b, off, none⟩ ∧ ∀ i (h : i < ls.length), ∃ A' c', w.cell? ⟨b, off + i, none⟩ = some (.slice A' (ls[i]).length c') ∧ SlA w (.slice A' (ls[i]).length c') ls[i])
theorem LsB.below {w w' : World} {v : Value} {ls : List (List UInt8)} (h : LsB w v ls) (hb : Below w.heap.size w w') : LsB w' v ls := by
  obtain ⟨A, c, e, hh⟩ := h
  refine ⟨A, c, e, fun h0 => ?_⟩
  obtain ⟨b, off, e2, hc⟩ := hh h0
  refine ⟨b, off, e2, fun i hi => ?_⟩
  obtain ⟨A', c', hu, hS⟩ := hc i hi
  exact ⟨A', c', (hb.cell (p := ⟨b, off + i, none⟩) (cell_lt hu)).trans hu, hS.below hb⟩
theorem LsA.lsb {w : World} {v : Value} {ls : List (List UInt8)} (h : LsA w v ls) : LsB w v ls := by
  obtain ⟨A, c, e, _, _, _, hh⟩ := h
  refine ⟨A, c, e, fun h0 => ?_⟩
  obtain ⟨b, off, e2, hc⟩ := hh h0
  refine ⟨b, off, e2, fun i hi => ?_⟩
  obtain ⟨u, hu, hS⟩ := hc i ls[i] (List.getElem?_eq_getElem hi)
  obtain ⟨A', c', e3, hx⟩ := id hS
  subst e3
  exact ⟨A', c', hu, hS⟩
theorem RowL.lsb {w : World} {B : Nat} {v : Value} {ls : List (List UInt8)} (h : RowL w B v ls) : LsB w v ls := by
  obtain ⟨A, c, e⟩ := h.len
  refine ⟨A, c, e, fun h0 => ?_⟩
  obtain ⟨vs, ho, hr⟩ := h
  have hvl : vs.length = ls.length := by have := ho.1; omega
  rcases ho.2 with ⟨_, hz⟩ | ⟨g, cap, cur, e2, _, hh, _, _, _, ht⟩
  · omega
  · rw [e] at e2
    injection e2 with e2 _ _
    refine ⟨g, 0, e2, fun i hi => ?_⟩
    obtain ⟨u, hu, hR⟩ := hr i ls[i] (List.getElem?_eq_getElem hi)
    obtain ⟨A', c', e3, hx⟩ := id hR.sla
    subst e3
    refine ⟨A', c', ?_, hR.sla⟩
    rw [Nat.zero_add, cell_of_row w g i cur _ (0, 0) hh]
    have h2 : (cur.toList.take (ls.length * 1))[i]? = vs[i]? := by rw [ht]
    rw [List.getElem?_take_of_lt (by omega), hu] at h2
    rw [← Array.getElem?_toList, h2]
theorem LsB.take {w : World} {A : Option Addr} {c : Nat} {ls : List (List UInt8)} (h : LsB w (.slice A ls.length c) ls) (k : Nat) (hk : k ≤ ls.length) (c' : Nat) : LsB w (.slice A k c') (ls.take k) := by
  obtain ⟨A1, c1, e, hh⟩ := h
  injection e with e _ _
  subst e
  have hl : (ls.take k).length = k := by rw [List.length_take]; omega
  refine ⟨A, c', by rw [hl], fun h0 => ?_⟩
  rw [hl] at h0
  obtain ⟨b, off, e2, hc⟩ := hh (by omega)
  refine ⟨b, off, e2, fun i hi => ?_⟩
  rw [hl] at hi
  rw [List.getElem_take]
  exact hc i (by omega)

theorem LsB.at {w : World} {A : Option Addr} {n c : Nat} {ls : List (List UInt8)} (h : LsB w (.slice A n c) ls) (k : Nat) (hk : k < ls.length) :
    ∃ b off A' c', A = some ⟨b, off, none⟩ ∧ w.cell? ⟨b, off + k, none⟩ = some (.slice A' (ls[k]).length c') ∧ SlA w (.slice A' (ls[k]).length c') ls[k] := by
  obtain ⟨A1, c1, e0, hh⟩ := h
  injection e0 with ea _ _
  obtain ⟨b, off, ea2, hcells⟩ := hh (by omega)
  obtain ⟨A', c', hu, hS⟩ := hcells k hk
  exact ⟨b, off, A', c', ea.trans ea2, hu, hS⟩
/-- Two cells and the world behind, carried. -/
abbrev TwoS (W : World) (p1 p2 : Addr) (u1 u2 : Value) (w' : World) : Prop := Hid (Below W.heap.size W w') ∧ w'.cell? p1 = some u1 ∧ w'.cell? p2 = some u2
section
variable {W w1 w' : World} {b1 o1 b2 o2 : Nat} {u1 u2 : Value}
theorem twoS_drew (h : TwoS W ⟨b1, o1, none⟩ ⟨b2, o2, none⟩ u1 u2 w1) : TwoS W ⟨b1, o1, none⟩ ⟨b2, o2, none⟩ u1 u2 w1.drew := ⟨hid h.1.out.drew, h.2⟩
theorem twoS_call (h : TwoS W ⟨b1, o1, none⟩ ⟨b2, o2, none⟩ u1 u2 w1) (hb : Below w1.heap.size w1 w') : TwoS W ⟨b1, o1, none⟩ ⟨b2, o2, none⟩ u1 u2 w' :=
  ⟨hid (h.1.out.trans (hb.mono h.1.out.size)), (hb.cell (p := ⟨b1, o1, none⟩) (cell_lt h.2.1)).trans h.2.1, (hb.cell (p := ⟨b2, o2, none⟩) (cell_lt h.2.2)).trans h.2.2⟩
end

set_option maxRecDepth 100000 in
set_option maxHeartbeats 1000000 in
theorem lists_ne (A1 A2 : Option Addr) (n1 n2 c1 c2 : Nat) (hn : n1 ≠ n2) (w : World) :
    Calls Tryd.prog 32 #[.slice A1 n1 c1, .slice A2 n2 c2] w fun e w' => e = .returned (.bool false) ∧ Below w.heap.size w w' := by
  have h : ¬ ((n1 : Int) = (n2 : Int)) := by omega
  go_enter Tryd.func32, Tryd.ntmps32
  go_wp2
  go_ret
  exact ⟨rfl, Below.refl _ _⟩

set_option maxRecDepth 100000 in
set_option maxHeartbeats 2000000 in
/-- Two lists of the same rows. -/
theorem lists_same (v1 v2 : Value) (ls : List (List UInt8)) (hrow : ∀ x ∈ ls, x.length ≤ 1000000) (hn : ls.length ≤ 1000000) (w : World) (h1 : LsB w v1 ls) (h2 : LsB w v2 ls) :
    Calls Tryd.prog 32 #[v1, v2] w fun e w' => e = .returned (.bool true) ∧ Below w.heap.size w w' := by
  have H1 := hid h1
  have H2 := hid h2
  obtain ⟨A1, c1, rfl, _⟩ := h1
  obtain ⟨A2, c2, rfl, _⟩ := h2
  have HR := hid hrow
  obtain ⟨n, hnl⟩ : ∃ n, ls.length = n := ⟨_, rfl⟩
  have HN := hid hnl
  rw [hnl] at hn ⊢
  clear hnl hrow
  go_enter Tryd.func32, Tryd.ntmps32
  go_wp2
  go_loopw [5] (fun vi wr => ∃ k : Nat, k ≤ n ∧ vi = .int .i64 k ∧ Below w.heap.size w wr) (fun vi _ => n - (intOf vi).toNat)
  case atStart => exact ⟨0, by omega, rfl, Below.refl _ _⟩
  case round =>
    obtain ⟨k, hk, rfl, hb⟩ := hrel
    by_cases hlt : k < n
    · have hkl : k < ls.length := by rw [HN.out]; exact hlt
      have HC : Hid (∀ W u1 u2, SlA W u1 ls[k] → SlA W u2 ls[k] → Calls Tryd.prog 24 #[u1, u2] W fun e w' => e = .returned (.bool true) ∧ Below W.heap.size W w') := fun W u1 u2 q1 q2 => by
        have := same_sla u1 u2 ls[k] ls[k] (HR.out _ (List.getElem_mem hkl)) W q1 q2
        rwa [decide_eq_true rfl] at this
      obtain ⟨b1, o1, A3, c3, ea1, hu1, hs1⟩ := (H1.out.below hb).at k hkl
      obtain ⟨b2, o2, A4, c4, ea2, hu2, hs2⟩ := (H2.out.below hb).at k hkl
      subst ea1; subst ea2
      have hS1 := hid hs1; have hS2 := hid hs2
      obtain ⟨m, hm⟩ : ∃ m, (ls[k]).length = m := ⟨_, rfl⟩
      rw [hm] at hu1 hu2 hS1 hS2
      have HN2 : TwoS wr ⟨b1, o1 + k, none⟩ ⟨b2, o2 + k, none⟩ (.slice A3 m c3) (.slice A4 m c4) wr := ⟨hid (Below.refl _ _), hu1, hu2⟩
      have HN2 := hid HN2
      have p1 : (0 : Int) ≤ (k : Int) := by omega
      have p2 : (k : Int) < (n : Int) := by omega
      clear hs1 hs2 hm
      go_wp2
      go_region_held3 (fun w' => Hid (Below wr.heap.size wr w') ∧ w'.cell? ⟨b1, o1 + k, none⟩ = some (.slice A3 m c3) ∧ w'.cell? ⟨b2, o2 + k, none⟩ = some (.slice A4 m c4))
        (first | exact HN2.out | exact twoS_drew HN2.out | exact twoS_call (by assumption) hbo | exact twoS_drew (by assumption) | assumption)
        ((go_at_call 24; ((with_reducible refine (HC.out _ _ _ ?_ ?_).mono ?_); (first | exact hS1.out | exact SlA.below hS1.out (Below.refl _ _).drew); (first | exact hS2.out | exact SlA.below hS2.out (Below.refl _ _).drew); rintro e w5 ⟨rfl, hbo⟩)))
      all_goals
        rename_i hLast
        go_wp2
        go_roundw
        case rel => exact ⟨k + 1, by omega, by go_num, hb.trans (hLast.1.out.mono hb.size)⟩
        case measure => simp [intOf]; omega
    · go_wp2
      go_ret
      exact ⟨rfl, hb⟩
end Go.Proofs.YtadehoibjpmhhaaDoor
